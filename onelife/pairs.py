"""Whether two lives can part, and the paper that shows that none do (points 7 and 8)."""

from onelife.checks import check_setting, is_life, is_number, is_tuple
from onelife.errors import TooMany
from onelife.partings import Search, lives_apart, marks_more
from onelife.places import Ground
from onelife.rows import are_along
from onelife.walks import marks_along, told_along

MOST_MARKS = 40
MOST_PAIRS = 4000


def is_safe(machine, marks, table):
    """Whether no two lives, of any length, part."""
    check_setting(machine, marks, table)
    return Search(machine, table).fewest is None


def parting(machine, marks, table):
    """Two lives that part by as few marks as can be, None if none part."""
    check_setting(machine, marks, table)
    search = short_search(machine, table)
    return None if search.fewest is None else lives_apart(search)


def shows_parting(machine, marks, table, value):
    """Whether a value is what parting may return."""
    check_setting(machine, marks, table)
    fewest = short_search(machine, table).fewest
    if fewest is None or value is None:
        return fewest is None and value is None
    if not is_tuple(value, 2, 2) or not all([is_life(machine, life) for life in value]):
        return False
    one, other = [marks_along(machine, table, life) for life in value]
    if max(len(one), len(other)) != fewest or not are_along(one, other):
        return False
    return not are_along(told_along(machine, table, value[0]), told_along(machine, table, value[1]))


def short_search(machine, table):
    """The search for lives that part; TooMany if the fewest marks are too many."""
    search = Search(machine, table)
    if search.fewest is not None and search.fewest > MOST_MARKS:
        raise TooMany(MOST_MARKS)
    return search


def closed_paper(machine, marks, table):
    """The paper with the fewest pairs that holds, None if there is none."""
    check_setting(machine, marks, table)
    search = Search(machine, table)
    if search.fewest is not None:
        return None
    places = search.ground.places
    return tuple([(places[one], places[other]) for one, other in pairs_needed(search.ground)])


def pairs_needed(ground):
    """The pairs that each paper of a safe table has, ascending; TooMany if they are too many."""
    found = {(0, 0): True}
    waiting = [(0, 0)]
    while waiting:
        one, other = waiting.pop()
        for pair in pairs_beside(ground, one, other):
            if pair not in found:
                found[pair] = True
                waiting.append(pair)
        if len(found) > MOST_PAIRS:
            raise TooMany(MOST_PAIRS)
    return sorted(found)


def pairs_beside(ground, one, other):
    """The pairs that each paper with this pair must have if it holds; None if no paper with it holds."""
    first, second = ground.steps[one], ground.steps[other]
    if first is None or second is None:
        return [(start, other) for start in ground.starts[one]] + [(one, start) for start in ground.starts[other]]
    if first[0] != second[0]:
        return []
    if first[2] == second[2]:
        return [(first[1], second[1])]
    return [] if marks_more(ground, first, second) is None else None


def shows_closed(machine, marks, table, value):
    """Whether a value is a paper that holds."""
    check_setting(machine, marks, table)
    ground = Ground(machine, table)
    pairs = numbered_pairs(ground, value)
    if pairs is None or any([later <= pair for pair, later in zip(pairs, pairs[1:])]):
        return False
    written = {pair: True for pair in pairs}
    if (0, 0) not in written:
        return False
    for one, other in pairs:
        wanted = pairs_beside(ground, one, other)
        if wanted is None or not all([pair in written for pair in wanted]):
            return False
    return True


def numbered_pairs(ground, value):
    """The pairs of the numbers of a paper's places, None for a value that is no tuple of pairs of places."""
    if not is_tuple(value, 1, MOST_PAIRS):
        return None
    pairs = []
    for pair in value:
        if not is_tuple(pair, 2, 2) or not all([is_place(ground, place) for place in pair]):
            return None
        pairs.append((ground.numbers[pair[0]], ground.numbers[pair[1]]))
    return pairs


def is_place(ground, value):
    """Whether a value is a place."""
    if not is_tuple(value, 3, 3):
        return False
    state, option, done = value
    # The kinds are asked one by one, because to Python False equals 0 and True equals 1.
    if not is_number(state) or not (option is None or is_number(option)) or not is_number(done):
        return False
    return value in ground.numbers
