"""Tables of turns (points 3 and 4)."""

from onelife.checks import check_life, check_marks, check_rows, check_setting
from onelife.rows import first_clash, gaps, power, ratio
from onelife.walks import coming_states, marks_along, told_along

LONGEST_ROW = 8


def spelled(machine, marks, table, life):
    """The marks that a life spells, the rows of its options one behind another."""
    check_setting(machine, marks, table)
    check_life(machine, life)
    return marks_along(machine, table, life)


def telling(machine, marks, table, life):
    """The pairs (number, word) that a life tells, the number being how many marks are spelled by then."""
    check_setting(machine, marks, table)
    check_life(machine, life)
    return told_along(machine, table, life)


def clash_of(rows):
    """The least pair (i, j) of unlike indexes such that row i begins row j, None without one."""
    check_rows(rows)
    return first_clash(rows)


def is_apart(machine, marks, table):
    """Whether at no state that can come a row begins another one's."""
    check_setting(machine, marks, table)
    return all([first_clash(table[state]) is None for state in coming_states(machine)])


def share(marks, rows):
    """The sum of marks ** -length over the rows, a ratio."""
    check_marks(marks)
    check_rows(rows, marks)
    parts = sum([power(marks, LONGEST_ROW - len(row)) for row in rows])
    return ratio(parts, power(marks, LONGEST_ROW))


def is_full(marks, rows):
    """Whether each mark behind each beginning of a row that is no row is again a beginning of a row."""
    check_marks(marks)
    check_rows(rows, marks)
    return not gaps(marks, rows)
