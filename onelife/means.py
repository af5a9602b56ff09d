"""Mean turns, and the tables that need the fewest (points 20 and 21)."""

from onelife.checks import check_chances, check_machine, check_marks, check_setting, check_table
from onelife.codes import cheapest_rows, shows_cheapest
from onelife.equations import first_unknown
from onelife.errors import BadTable, NoTable
from onelife.walks import coming_states, states_from


def mean_total(machine, marks, table, weights):
    """The mean number of turns of a life up to a state without options, None if it may never come to one."""
    check_setting(machine, marks, table)
    check_chances(machine, weights)
    coming = coming_states(machine)
    if not all([_can_end(machine, state) for state in coming]):
        return None
    states = [state for state in coming if machine[state]]
    if not states:
        return 0, 1
    return first_unknown([_total_equation(machine, table, weights, states, state) for state in states])


def _can_end(machine, state):
    return any([not machine[target] for target in states_from(machine, state)])


def _total_equation(machine, table, weights, states, state):
    """What the turns from a state are by those from the states behind it; the unknowns are in the order of states."""
    factors = {place: 0 for place in states}
    factors[state] = sum(weights[state])
    for option, weight in zip(machine[state], weights[state]):
        if option[0] in factors:
            factors[option[0]] -= weight
    return [factors[place] for place in states] + [_weighed_turns(table, weights, state)]


def _weighed_turns(table, weights, state):
    return sum([weight * len(row) for weight, row in zip(weights[state], table[state])])


def mean_pace(machine, marks, table, weights):
    """The mean number of turns for a choice in the long run, None if a state without options can come."""
    check_setting(machine, marks, table)
    check_chances(machine, weights)
    states = coming_states(machine)
    if not all([machine[state] for state in states]):
        return None
    leaders = _leaders(machine, states)
    return first_unknown([_pace_equation(machine, table, weights, leaders, state) for state in states])


def _leaders(machine, states):
    """For each state that comes again for ever once it came, the least of the states that come with it; else None."""
    reach = {state: states_from(machine, state) for state in states}
    return {state: min(reach[state]) if all([state in reach[other] for other in reach[state]]) else None
            for state in states}


def _pace_equation(machine, table, weights, leaders, state):
    """The equation of a state, its unknowns in the order of the states.

    The unknown of a state without a leader is its pace, that of a leader the pace of all that it leads, and that of
    another state how many turns more than its leader it has ahead of it in the long run.
    """
    factors = {place: 0 for place in leaders}
    total = sum(weights[state])
    leader = leaders[state]
    if leader is None:
        factors[state] = total
        for option, weight in zip(machine[state], weights[state]):
            target = option[0]
            factors[target if leaders[target] is None else leaders[target]] -= weight
        return [factors[place] for place in leaders] + [0]
    factors[leader] = total
    if state != leader:
        factors[state] += total
    for option, weight in zip(machine[state], weights[state]):
        if option[0] != leader:
            factors[option[0]] -= weight
    return [factors[place] for place in leaders] + [_weighed_turns(table, weights, state)]


def cheapest_table(machine, marks, weights):
    """A table with apart rows of the least price for the weights of each state."""
    _check_weighed(machine, marks, weights)
    # A state has at most six options, and such rows are then at most five marks long, so that none is too long.
    table = tuple([cheapest_rows(marks, numbers) if numbers else () for numbers in weights])
    if None in table:
        raise NoTable("a state has no apart rows")
    return table


def _check_weighed(machine, marks, weights):
    check_machine(machine)
    check_marks(marks)
    check_chances(machine, weights)


def shows_cheapest_table(machine, marks, weights, value):
    """Whether a value is a table with apart rows of the least price for the weights of each state."""
    _check_weighed(machine, marks, weights)
    try:
        check_table(machine, marks, value)
    except BadTable:
        return False
    # Where a state has no apart rows at all, none that a table has are shown to be cheapest.
    return all([not numbers or shows_cheapest(marks, numbers, rows) for numbers, rows in zip(weights, value)])
