"""How many lots of apart rows there are (point 24)."""

from math import factorial

from onelife.checks import check_marks, check_number
from onelife.errors import TooMany
from onelife.rows import are_along
from onelife.searches import rows_up_to

MOST_ROWS = 12
LONGEST_ROW = 8
MOST_LOTS = 2000


def count_apart(marks, many, long):
    """How many tuples of so many apart rows of at most so many marks there are."""
    _check_family(marks, many, long)
    return apart_lots(marks, many, long)


def count_full(marks, many, long):
    """How many tuples of so many apart rows of at most so many marks are full."""
    _check_family(marks, many, long)
    # No rows are full, though behind their beginning, the empty one, there is none.
    return 1 if many == 0 else factorial(many) * sets_behind(marks, many, long, 0)


def every_apart(marks, many, long):
    """All tuples of so many apart rows of at most so many marks, ascending."""
    _check_family(marks, many, long)
    lots = apart_lots(marks, many, long)
    if lots > MOST_LOTS:
        raise TooMany(MOST_LOTS)
    # Asked ahead of the search, which would try all fewer rows that are apart.
    if lots == 0:
        return ()
    rows = sorted(rows_up_to(marks, long))
    found = [()]
    for _ in range(many):
        found = [taken + (row,) for taken in found for row in rows if is_apart_from(row, taken)]
    return tuple(found)


def _check_family(marks, many, long):
    check_marks(marks)
    check_number(many, 0, MOST_ROWS)
    check_number(long, 1, LONGEST_ROW)


def apart_lots(marks, many, long):
    """What count_apart returns, nothing being checked."""
    return factorial(many) * sets_behind(marks, many, long, 1)


def is_apart_from(row, taken):
    """Whether a row begins none of some rows and none of them begins it."""
    return not any([are_along(row, other) for other in taken])


def sets_behind(marks, many, long, bare):
    """How many sets of so many apart rows go on behind a common beginning by one to so many marks.

    bare is 1 if nothing needs to stand behind a beginning, and 0 if a row must.
    """
    # For none, one and more rows how many sets there are behind a beginning by at most so many marks, itself included.
    sets = [bare, 1] + [0] * (many - 1)
    for _ in range(long - 1):
        sets = sets_of_parts(marks, many, sets)
        sets[1] += 1
    return sets_of_parts(marks, many, sets)[many]


def sets_of_parts(marks, many, sets):
    """From the sets that there are behind each of so many marks, by how many rows they have, those of all together."""
    found = [1] + [0] * max(1, many)
    for _ in range(marks):
        found = [sum([found[rows] * sets[together - rows] for rows in range(together + 1)])
                 for together in range(len(found))]
    return found
