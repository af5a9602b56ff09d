"""What a life does, unchecked and of any length."""


def path_of(machine, life):
    """The pairs of a state and the option that a life takes there, in order."""
    path = []
    state = 0
    for option in life:
        path.append((state, option))
        state = machine[state][option][0]
    return path


def state_behind(machine, life):
    """The state to which a life leads."""
    state = 0
    for option in life:
        state = machine[state][option][0]
    return state


def words_along(machine, life):
    """For each option of a life its word, None for one that says nothing."""
    return [machine[state][option][1] for state, option in path_of(machine, life)]


def marks_along(machine, table, life):
    """The tuple of the marks that a life spells."""
    found = []
    for state, option in path_of(machine, life):
        found.extend(table[state][option])
    return tuple(found)


def told_along(machine, table, life):
    """The tuple of the pairs of a number and a word that a life tells."""
    told = []
    number = 0
    for state, option in path_of(machine, life):
        number += len(table[state][option])
        word = machine[state][option][1]
        if word is not None:
            told.append((number, word))
    return tuple(told)


def coming_states(machine):
    """The states to which lives lead, ascending."""
    return states_from(machine, 0)


def states_from(machine, state):
    """The states to which options lead from a state, itself included, ascending."""
    found = {state: True}
    waiting = [state]
    while waiting:
        place = waiting.pop()
        for target, _ in machine[place]:
            if target not in found:
                found[target] = True
                waiting.append(target)
    return sorted(found)
