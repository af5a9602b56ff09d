"""Apart rows with the fewest turns (points 11, 12 and the loud tables of 13)."""

from onelife.checks import check_lengths, check_machine, check_marks, check_number, check_weights, is_row, is_tuple
from onelife.errors import NoTable
from onelife.prices import cheapest_lengths, enough_marks, price_in_order, price_of
from onelife.rows import first_clash, power, row_of

LONGEST_ROW = 8
LONGEST_SHOWN = 40


def least_longest(marks, many):
    """The least length of the longest of so many apart rows, None if there are none."""
    check_marks(marks)
    check_number(many, 1, 40)
    return long_enough(marks, many)


def long_enough(marks, many):
    """The least length of which there are so many rows, None if there is none."""
    if marks == 1 and many > 1:
        return None
    length = 1
    while power(marks, length) < many:
        length += 1
    return length


def rows_for(marks, lengths):
    """The least apart rows of these lengths, None if there are none."""
    check_marks(marks)
    check_lengths(lengths)
    return least_rows(marks, lengths)


def least_rows(marks, lengths):
    """The least apart rows of lengths that are not checked, None if there are none."""
    rows = {}
    taken = 0
    before = 0
    for length, index in sorted([(size, at) for at, size in enumerate(lengths)]):
        # The shorter rows take up just the least ones of this length, so many of them.
        taken *= power(marks, length - before)
        if taken >= power(marks, length):
            return None
        rows[index] = row_of(taken, marks, length)
        taken += 1
        before = length
    return tuple([rows[at] for at in range(len(lengths))])


def least_price(marks, weights):
    """The least price of apart rows, one for each weight, None if there are none."""
    check_marks(marks)
    check_weights(weights)
    return lowest_price(marks, weights, enough_marks(weights))


def least_price_within(marks, weights, most):
    """The least price of apart rows of at most so many marks, None if there are none."""
    check_marks(marks)
    check_weights(weights)
    check_number(most, 1, 8)
    return lowest_price(marks, weights, most)


def lowest_price(marks, weights, most):
    """The least price of apart rows of at most so many marks, nothing being checked, None if there are none."""
    lengths = cheapest_lengths(marks, weights, most)
    return None if lengths is None else price_of(weights, lengths)


def least_price_in_order(marks, weights):
    """The least price of apart rows that ascend, one for each weight, None if there are none."""
    check_marks(marks)
    check_weights(weights)
    return price_in_order(marks, weights)


def cheapest_rows(marks, weights):
    """Apart rows of the least price, one for each weight, None if there are none."""
    check_marks(marks)
    check_weights(weights)
    lengths = cheapest_lengths(marks, weights, enough_marks(weights))
    return None if lengths is None else least_rows(marks, lengths)


def shows_cheapest(marks, weights, value):
    """Whether a value is apart rows of the least price, of at most 40 marks, or None if there are none."""
    check_marks(marks)
    check_weights(weights)
    price = lowest_price(marks, weights, enough_marks(weights))
    if price is None or value is None:
        return price is None and value is None
    if not is_tuple(value, len(weights), len(weights)):
        return False
    if not all([is_row(row, marks, LONGEST_SHOWN) for row in value]) or first_clash(value) is not None:
        return False
    return price_of(weights, [len(row) for row in value]) == price


def loud_table(machine, marks):
    """The table with the least apart rows of one length, as short as can be, at each state."""
    check_machine(machine)
    check_marks(marks)
    return tuple([_loud_rows(marks, len(state)) for state in machine])


def _loud_rows(marks, many):
    if many == 0:
        return ()
    length = long_enough(marks, many)
    if length is None or length > LONGEST_ROW:
        raise NoTable("a state has no such rows")
    return least_rows(marks, [length] * many)
