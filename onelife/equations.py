"""Linear equations over integers, solved exactly."""

from onelife.rows import ratio


def first_unknown(equations):
    """The first unknown of as many equations as unknowns, a ratio; each one has the factors, and then the sum.

    There must be just one solution.
    """
    left = [list(equation) for equation in equations]
    divisor = 1
    for unknown in range(len(equations) - 1, 0, -1):
        at = [equation[unknown] != 0 for equation in left].index(True)
        chosen = left.pop(at)
        left = [_without(equation, chosen, unknown, divisor) for equation in left]
        divisor = chosen[unknown]
    factor, total = left[0][0], left[0][-1]
    return ratio(total, factor) if factor > 0 else ratio(-total, -factor)


def _without(equation, chosen, unknown, divisor):
    # Each number left is a minor of the equations, so that the last divisor goes into it without a rest.
    factor, other = chosen[unknown], equation[unknown]
    return [(factor * ours - other * theirs) // divisor for ours, theirs in zip(equation, chosen)]
