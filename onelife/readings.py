"""What the wheel alone tells (point 22)."""

from onelife.checks import check_setting, check_spelled
from onelife.errors import TooMany
from onelife.places import Ground
from onelife.rows import begins

MOST_WAYS = 2000


def lives_at(machine, marks, table, spelled):
    """The ways (life, done) that spell just these marks, ascending."""
    _check_spelling(machine, marks, table, spelled)
    ways = ways_along(Ground(machine, table), spelled)[-1]
    return tuple(sorted([(life, done) for life, done, _, _ in ways]))


def places_at(machine, marks, table, spelled):
    """The unlike places at which the ways that spell just these marks stand, ascending."""
    _check_spelling(machine, marks, table, spelled)
    ground = Ground(machine, table)
    ways = ways_along(ground, spelled)[-1]
    return tuple([ground.places[place] for place in sorted(set([place for _, _, place, _ in ways]))])


def marks_next(machine, marks, table, spelled):
    """The marks by which the wheel can go on behind these marks, ascending."""
    _check_spelling(machine, marks, table, spelled)
    ground = Ground(machine, table)
    ways = ways_along(ground, spelled)[-1]
    return tuple(sorted(set([move[0] for _, _, place, _ in ways for move in ground.moves[place]])))


def told_at(machine, marks, table, spelled):
    """The longest telling of the lives that spell a beginning of these marks, None if two of them don't go together."""
    _check_spelling(machine, marks, table, spelled)
    # An option that is not wholly done has said nothing, so that a way on it tells what a life ahead of it does.
    tellings = {told: True for ways in ways_along(Ground(machine, table), spelled) for _, _, _, told in ways}
    longest = max(list(tellings), key=len)
    return longest if all([begins(told, longest) for told in tellings]) else None


def _check_spelling(machine, marks, table, spelled):
    check_setting(machine, marks, table)
    check_spelled(marks, spelled)


def ways_along(ground, spelled):
    """For each beginning of some marks, the shortest first, the ways that spell it: (life, done, place, telling).

    TooMany if they are too many behind one of them.
    """
    ways = [((), 0, 0, ())]
    found = [ways]
    for count, mark in enumerate(spelled, start=1):
        ways = [longer for way in ways for longer in ways_on(ground, way, count, mark)]
        if len(ways) > MOST_WAYS:
            raise TooMany(MOST_WAYS)
        found.append(ways)
    return found


def ways_on(ground, way, count, mark):
    """The ways that go on from another one by a mark, which is the one of this number."""
    life, done, place, told = way
    found = []
    for following, target, word, option in ground.moves[place]:
        if following == mark:
            telling = told if word is None else told + ((count, word),)
            longer, begun = (life, done + 1) if option is None else (life + (option,), 1)
            found.append((longer, begun, target, telling))
    return found
