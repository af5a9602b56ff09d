"""What a fault in the house may lead to (point 17)."""

from onelife.checks import check_manner, check_number, check_setting, is_tuple
from onelife.errors import BadStory
from onelife.stories import World, lived

MOST_STEPS = 9


def harm_of(machine, marks, table, manner, most):
    """The pair of a harm's word and a story of the fewest steps, at most so many, that does it; None without one."""
    _check_house(machine, marks, table, manner, most)
    return first_harm(machine, table, manner, most)


def shows_harm(machine, marks, table, manner, most, value):
    """Whether a value is a harm with a story of the fewest steps, at most so many, or None if there is none."""
    _check_house(machine, marks, table, manner, most)
    least = first_harm(machine, table, manner, most)
    if least is None:
        return value is None
    if not is_tuple(value, 2, 2) or not is_tuple(value[1], len(least[1]), len(least[1])):
        return False
    try:
        harm = harm_in(lived(machine, table, value[1], manner))
    except BadStory:
        return False
    return harm is not None and value[0] == harm


def _check_house(machine, marks, table, manner, most):
    check_setting(machine, marks, table)
    check_manner(manner)
    check_number(most, 0, MOST_STEPS)


def harm_in(world):
    """The harm that is done behind a story, "two lives" ahead of "dead", None without one."""
    if world.is_torn():
        return "two lives"
    return "dead" if world.is_lost() else None


def first_harm(machine, table, manner, most):
    """What harm_of returns, nothing being checked: searched step by step, each world but once."""
    worlds = [((), World(machine, table, manner))]
    known = {}
    for _ in range(most):
        later = []
        for story, world in worlds:
            for step in world.open_steps():
                following = world.behind(step)
                harm = harm_in(following)
                if harm is not None:
                    return harm, story + (step,)
                key = (following.reading, tuple(following.notes), following.standing, tuple(following.speakers))
                if key not in known:
                    known[key] = True
                    later.append((story + (step,), following))
        worlds = later
    return None
