"""A judge from outside: whether one life says all that was heard (point 44)."""

from itertools import combinations

from onelife.checks import check_heard, check_setting
from onelife.errors import TooMany

MOST_OPTIONS = 40
MOST_UNLIKE = 12


def one_life(machine, marks, table, heard):
    """The least of the shortest lives whose telling has all pairs that were heard, None if there is none."""
    _check_told(machine, marks, table, heard)
    pairs = unlike_pairs(heard)
    if not can_be_said(machine, table, pairs):
        return None
    wanted = dict(pairs)
    life = least_life(machine, table, wanted, options_left(machine, table, wanted))
    if len(life) > MOST_OPTIONS:
        raise TooMany(MOST_OPTIONS)
    return life


def least_lot(machine, marks, table, heard):
    """The least of the smallest lots of heard pairs that no life says together, None if one says all."""
    _check_told(machine, marks, table, heard)
    pairs = unlike_pairs(heard)
    if can_be_said(machine, table, pairs):
        return None
    if len(pairs) > MOST_UNLIKE:
        raise TooMany(MOST_UNLIKE)
    return first_unsaid(machine, table, pairs)


def _check_told(machine, marks, table, heard):
    check_setting(machine, marks, table)
    check_heard(heard)


def unlike_pairs(heard):
    """The unlike pairs that were heard, ascending."""
    return sorted(set(heard))


def can_be_said(machine, table, pairs):
    """Whether one life says all of some ascending pairs."""
    states, number = (0,), 0
    for pair in pairs:
        states = states_saying(machine, table, states, number, pair)
        number = pair[0]
    return len(states) > 0


def states_saying(machine, table, states, number, pair):
    """The states to which lives lead that were at one of some states with a number of marks, once they say a pair."""
    # Each state once for each number of marks, so that it does not matter how many lives come there.
    reached = {count: {} for count in range(number, pair[0])}
    reached[number] = {state: True for state in states}
    found = {}
    for count in range(number, pair[0]):
        for state in list(reached[count]):
            for (target, word), row in zip(machine[state], table[state]):
                behind = count + len(row)
                if behind < pair[0]:
                    reached[behind][target] = True
                elif (behind, word) == pair:
                    found[target] = True
    return tuple(sorted(found))


def first_unsaid(machine, table, pairs):
    """The least of the smallest lots of some ascending pairs that no life says together; there must be one."""
    states_behind = {(): (0,)}
    known = {}
    for many in range(1, len(pairs) + 1):
        for lot in combinations(pairs, many):
            number = lot[-2][0] if many > 1 else 0
            step = (states_behind[lot[:-1]], number, lot[-1])
            if step not in known:
                known[step] = states_saying(machine, table, step[0], number, lot[-1])
            if not known[step]:
                return lot
            states_behind[lot] = known[step]
    return None


def options_left(machine, table, wanted):
    """For each (number of marks, state) the fewest options by which all that is wanted later is said, None if never."""
    last = max(wanted, default=0)
    left = {(last, state): 0 for state in range(len(machine))}
    for count in range(last - 1, -1, -1):
        for state in range(len(machine)):
            later = [left[(behind, target)] for _, behind, target in options_on(machine, table, wanted, count, state)]
            fewest = min([many for many in later if many is not None], default=None)
            left[(count, state)] = None if fewest is None else fewest + 1
    return left


def options_on(machine, table, wanted, count, state):
    """The options (option, number of marks behind it, state behind it) that say what is wanted and pass nothing by."""
    found = []
    for option, row in enumerate(table[state]):
        target, word = machine[state][option]
        behind = count + len(row)
        passed = [number for number in range(count + 1, behind) if number in wanted]
        if not passed and wanted.get(behind, word) == word:
            found.append((option, behind, target))
    return found


def least_life(machine, table, wanted, left):
    """The least of the shortest lives that say all that is wanted; there must be one."""
    life = []
    count, state = 0, 0
    while left[(count, state)] > 0:
        fewer = left[(count, state)] - 1
        ways = [way for way in options_on(machine, table, wanted, count, state) if left[(way[1], way[2])] == fewer]
        option, count, state = ways[0]
        life.append(option)
    return tuple(life)
