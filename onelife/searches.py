"""The safe tables with the shortest rows (point 13)."""

from onelife.checks import check_machine, check_marks, check_number, check_table
from onelife.errors import BadTable, TooMany
from onelife.partings import Search

MOST_TABLES = 4000


def least_table(machine, marks, most):
    """A safe table with the shortest longest row, then the least sum of lengths, None without one."""
    _check_search(machine, marks, most)
    tables = [table_of(machine, rows) for rows in every_rows(machine, marks, most)]
    for _, number in sorted([(size_of(table), at) for at, table in enumerate(tables)]):
        if Search(machine, tables[number]).fewest is None:
            return tables[number]
    return None


def shows_least_table(machine, marks, most, value):
    """Whether a value is what least_table may return."""
    least = least_table(machine, marks, most)
    if least is None or value is None:
        return least is None and value is None
    try:
        check_table(machine, marks, value)
    except BadTable:
        return False
    return size_of(value) == size_of(least) and Search(machine, value).fewest is None


def _check_search(machine, marks, most):
    check_machine(machine)
    check_marks(marks)
    check_number(most, 1, 3)


def every_rows(machine, marks, most):
    """The rows of all options of each table with rows of at most so many marks; TooMany if they are too many."""
    options = sum([len(state) for state in machine])
    rows = rows_up_to(marks, most)
    many = 1
    for _ in range(options):
        many *= len(rows)
        if many > MOST_TABLES:
            raise TooMany(MOST_TABLES)
    found = [()]
    for _ in range(options):
        found = [taken + (row,) for taken in found for row in rows]
    return found


def rows_up_to(marks, most):
    """All rows of at most so many of these marks."""
    found = []
    longest = [()]
    for _ in range(most):
        longest = [row + (mark,) for row in longest for mark in range(marks)]
        found.extend(longest)
    return found


def table_of(machine, rows):
    """The table of a machine in which these are the rows of all its options, state by state."""
    table = []
    taken = 0
    for state in machine:
        table.append(rows[taken:taken + len(state)])
        taken += len(state)
    return tuple(table)


def size_of(table):
    """The length of a table's longest row, and the sum of all lengths."""
    lengths = [len(row) for rows in table for row in rows]
    return max(lengths, default=0), sum(lengths)
