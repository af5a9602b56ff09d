"""Several machines at one wheel: their table and their lives (point 47)."""

from onelife.boxes import joined
from onelife.checks import check_life, check_machine, check_marks, check_table
from onelife.errors import BadMarks, TooMany
from onelife.walks import path_of

LONGEST_ROW = 8


def joined_table(one, other, marks, first, second):
    """The table of the joined machine of two, with a mark ahead of each row that tells whose it is."""
    check_machine(one)
    check_machine(other)
    check_marks(marks)
    if marks == 1:
        raise BadMarks("one mark alone cannot tell two machines apart")
    check_table(one, marks, first)
    check_table(other, marks, second)
    # Called for the errors alone that the joined machine has.
    joined(one, other)
    made = tuple([_both_rows(ours, theirs) for ours in first for theirs in second])
    if any([len(row) > LONGEST_ROW for rows in made for row in rows]):
        raise TooMany(LONGEST_ROW)
    return made


def _both_rows(ours, theirs):
    return tuple([(0,) + row for row in ours] + [(1,) + row for row in theirs])


def parted_life(one, other, life):
    """The lives of two machines that a life of the joined machine is."""
    machine = joined(one, other)
    check_life(machine, life)
    ours, theirs = [], []
    for state, option in path_of(machine, life):
        many = len(one[state // len(other)])
        if option < many:
            ours.append(option)
        else:
            theirs.append(option - many)
    return tuple(ours), tuple(theirs)
