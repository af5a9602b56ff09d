"""The lengths of apart rows of the least price (point 12), nothing being checked."""


def price_of(weights, lengths):
    """The sum of weight times length."""
    return sum([weight * length for weight, length in zip(weights, lengths)])


def enough_marks(weights):
    """So many marks that longer rows are never cheaper: with each mark of the longest row one more row can end."""
    return max(1, len(weights) - 1)


def cheapest_lengths(marks, weights, most):
    """The lengths of apart rows of the least price with at most so many marks, None if there are none."""
    heavy_first = sorted([(-weight, index) for index, weight in enumerate(weights)])
    rests = rests_of([-weight for weight, _ in heavy_first])
    ended = []
    # For each number of rows that have ended, the heaviest first, and of beginnings that are no row yet,
    # the least price so far and the lengths that have it.
    cheapest = {(0, min(marks, len(weights))): (0, ())}
    for length in range(1, most + 1):
        longer = {}
        for (taken, free), (price, lengths) in cheapest.items():
            for more in range(free + 1):
                stand = next_stand(marks, len(weights), taken + more, free - more)
                found = (price + rests[taken], lengths + (length,) * more)
                if stand not in longer or found < longer[stand]:
                    longer[stand] = found
        ended.extend([longer[stand] for stand in longer if stand[0] == len(weights)])
        cheapest = {stand: longer[stand] for stand in longer if stand[1] > 0}
    if not ended:
        return None
    return in_order_of(heavy_first, min(ended)[1])


def rests_of(numbers):
    """For 0 and more of the first numbers, up to all of them, the sum of the others."""
    return [sum(numbers[first:]) for first in range(len(numbers) + 1)]


def next_stand(marks, many, taken, free):
    """How many rows have ended and how many beginnings are left, one mark longer, not counting useless ones."""
    return taken, min(free * marks, many - taken)


def in_order_of(heavy_first, lengths):
    """The lengths in the order of the weights."""
    placed = {index: length for (_, index), length in zip(heavy_first, lengths)}
    return [placed[index] for index in range(len(lengths))]


def price_in_order(marks, weights):
    """The least price of apart rows that ascend, None if there are none."""
    if len(weights) == 1:
        return weights[0]
    if marks == 1:
        return None
    # prices[(low, high, parts)]: the least price of ascending rows for the weights from low to below high that
    # go on behind a common beginning by at most so many marks; the beginning is not counted, and one row may be it.
    prices = {}
    for size in range(1, len(weights) + 1):
        for low in range(len(weights) - size + 1):
            add_prices(prices, marks, weights, low, low + size)
    return prices[(0, len(weights), 1)]


def add_prices(prices, marks, weights, low, high):
    """Add the prices for the weights from low to below high, those for fewer weights being there."""
    if high - low == 1:
        for parts in range(1, marks):
            prices[(low, high, parts)] = 0
        return
    whole = sum(weights[low:high]) + least_split(prices, low, high, marks)
    prices[(low, high, 1)] = whole
    for parts in range(2, marks):
        prices[(low, high, parts)] = min(whole, least_split(prices, low, high, parts))


def least_split(prices, low, high, parts):
    """The least price for two or more parts, at most so many, the first one having one mark of its own."""
    return min([prices[(low, end, 1)] + prices[(end, high, parts - 1)] for end in range(low + 1, high)])
