"""How many lives there are, what they cost, and their numbers (point 23)."""

from onelife.checks import check_life, check_machine, check_number, check_setting
from onelife.sums import saved_weights, sums_behind, turn_weights
from onelife.walks import path_of

MOST_COUNTED = 2000
MOST_OPTIONS = 40
LONGEST_ROW = 8


def count_lives(machine, options):
    """How many lives have exactly so many options."""
    check_machine(machine)
    check_number(options, 0, MOST_COUNTED)
    many = [1] * len(machine)
    for _ in range(options):
        many = lives_on(machine, many)
    return many[0]


def lives_on(machine, many):
    """From how many lives there are on from each state those with one option more."""
    return [sum([many[target] for target, _ in state]) for state in machine]


def count_spelled(machine, marks, table, turns):
    """How many lives spell exactly so many marks."""
    check_setting(machine, marks, table)
    check_number(turns, 0, MOST_COUNTED)
    # For each state how many lives on from it spell none, one and more marks; only as many as a row may have are kept.
    many = [[1] * len(machine)]
    for _ in range(turns):
        longer = [spelled_on(state, rows, many) for state, rows in zip(machine, table)]
        many = [longer] + many[:LONGEST_ROW - 1]
    return many[0][0]


def spelled_on(state, rows, many):
    """How many lives on from a state spell a number of marks; many has those for one mark less, for two, and so on."""
    return sum([many[len(row) - 1][target] for (target, _), row in zip(state, rows) if len(row) <= len(many)])


def fewest_turns(machine, marks, table, options):
    """The fewest marks that a life of exactly so many options spells, None if there is no such life."""
    check_setting(machine, marks, table)
    check_number(options, 0, MOST_COUNTED)
    sums = sums_behind(machine, saved_weights(table), options)
    return -max(list(sums.values())) if sums else None


def most_turns(machine, marks, table, options):
    """The most marks that a life of exactly so many options spells, None if there is no such life."""
    check_setting(machine, marks, table)
    check_number(options, 0, MOST_COUNTED)
    sums = sums_behind(machine, turn_weights(table), options)
    return max(list(sums.values())) if sums else None


def life_number(machine, life):
    """How many lives of as many options are less than a life."""
    check_machine(machine)
    check_life(machine, life)
    counts = counts_up_to(machine, len(life))
    number = 0
    for at, (state, option) in enumerate(path_of(machine, life)):
        left = counts[len(life) - at - 1]
        number += sum([left[target] for target, _ in machine[state][:option]])
    return number


def counts_up_to(machine, options):
    """For none, one and more options, up to so many, how many lives there are on from each state."""
    counts = [[1] * len(machine)]
    for _ in range(options):
        counts.append(lives_on(machine, counts[-1]))
    return counts


def nth_life(machine, options, number):
    """The life of exactly so many options of which so many are less."""
    check_machine(machine)
    check_number(options, 0, MOST_OPTIONS)
    counts = counts_up_to(machine, options)
    check_number(number, 0, counts[options][0] - 1)
    life = []
    state = 0
    for left in range(options - 1, -1, -1):
        option = 0
        while number >= counts[left][machine[state][option][0]]:
            number -= counts[left][machine[state][option][0]]
            option += 1
        life.append(option)
        state = machine[state][option][0]
    return tuple(life)
