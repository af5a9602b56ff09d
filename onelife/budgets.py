"""What a wheel of so many teeth is enough for, and which of two tables needs more (point 25)."""

from onelife.checks import check_machine, check_marks, check_number, check_setting, check_table
from onelife.errors import TooMany
from onelife.sums import greatest_sum, saved_weights, sums_on, turn_weights

MOST_COUNTED = 2000
MOST_OPTIONS = 40


def most_options(machine, marks, table, teeth):
    """The greatest number of options of a life that spells at most so many marks."""
    check_setting(machine, marks, table)
    check_number(teeth, 0, MOST_COUNTED)
    weights = saved_weights(table)
    many = 0
    sums = sums_on(machine, weights, {0: 0})
    while sums and -max(list(sums.values())) <= teeth:
        many += 1
        sums = sums_on(machine, weights, sums)
    return many


def teeth_for(machine, marks, table, options):
    """The greatest number of marks that a life of at most so many options spells."""
    check_setting(machine, marks, table)
    check_number(options, 0, MOST_COUNTED)
    weights = turn_weights(table)
    sums = {0: 0}
    teeth = 0
    for _ in range(options):
        sums = sums_on(machine, weights, sums)
        teeth = max([teeth] + list(sums.values()))
    return teeth


def never_longer(machine, marks, one, other):
    """Whether no life spells more marks by one table than by another one."""
    _check_tables(machine, marks, one, other)
    return greatest_sum(machine, weights_of(one, other)) == 0


def most_longer(machine, marks, one, other):
    """The greatest number of marks that a life spells more by one table than by another, None without a greatest."""
    _check_tables(machine, marks, one, other)
    return greatest_sum(machine, weights_of(one, other))


def longer_life(machine, marks, one, other):
    """A life of the fewest options that spells more marks by one table than by another one, None without one."""
    _check_tables(machine, marks, one, other)
    weights = weights_of(one, other)
    if greatest_sum(machine, weights) == 0:
        return None
    sums = [{0: 0}]
    for _ in range(MOST_OPTIONS):
        sums.append(sums_on(machine, weights, sums[-1]))
        longer = [state for state, total in sums[-1].items() if total > 0]
        if longer:
            return life_to(machine, weights, sums, longer[0])
    raise TooMany(MOST_OPTIONS)


def _check_tables(machine, marks, one, other):
    check_machine(machine)
    check_marks(marks)
    check_table(machine, marks, one)
    check_table(machine, marks, other)


def weights_of(one, other):
    """The weight of each option being how many marks more its row has by one table than by another one."""
    return [[len(row) - len(theirs) for row, theirs in zip(rows, others)] for rows, others in zip(one, other)]


def life_to(machine, weights, sums, state):
    """A life of the greatest sum to a state, by the greatest sums for none, one and more options."""
    options = []
    for many in range(len(sums) - 1, 0, -1):
        state, option = last_step(machine, weights, sums[many - 1], state, sums[many][state])
        options.append(option)
    return tuple(options[::-1])


def last_step(machine, weights, sums, state, total):
    """The place and its option by which a life of a sum comes to a state, by the greatest sums one option before."""
    steps = [(place, option) for place in sums for option, weight in enumerate(weights[place])
             if machine[place][option][0] == state and sums[place] + weight == total]
    return steps[0]
