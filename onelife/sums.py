"""The greatest sums of weights along lives of any length, a weight being told for each option of each state."""


def turn_weights(table):
    """The weight of each option being how many marks its row has."""
    return [[len(row) for row in rows] for rows in table]


def saved_weights(table):
    """The same weights below 0, so that the greatest sum is that of the fewest marks."""
    return [[-len(row) for row in rows] for rows in table]


def sums_on(machine, weights, sums):
    """From the greatest sums of lives by the states to which they lead those of lives with one option more."""
    longer = {}
    for state, total in sums.items():
        for (target, _), weight in zip(machine[state], weights[state]):
            if target not in longer or longer[target] < total + weight:
                longer[target] = total + weight
    return longer


def sums_behind(machine, weights, options):
    """The greatest sums of lives of exactly so many options, by the states to which they lead."""
    sums = {0: 0}
    for _ in range(options):
        sums = sums_on(machine, weights, sums)
    return sums


def greatest_sum(machine, weights):
    """The greatest sum of a life, None if there is no greatest."""
    greatest = {0: 0}
    # A life that comes to no state twice has fewer options than there are states. If one with as many has a greater
    # sum still, it goes round by what can be gone round again and again.
    for _ in range(len(machine)):
        longer = sums_on(machine, weights, greatest)
        changed = {state: longer[state] for state in longer
                   if state not in greatest or greatest[state] < longer[state]}
        if not changed:
            return max(list(greatest.values()))
        greatest.update(changed)
    return None
