"""Whether a value is a program (point 40)."""

from onelife.checks import is_tuple, is_within, is_word
from onelife.errors import BadProgram

MOST_PARTS = 80
MOST_DEEP = 8


def check_program(program):
    """Raise BadProgram for a value that is no program."""
    if not is_tuple(program, 2, 2) or not are_cells(program[0]) or not is_block(dict(program[0]), program[1]):
        raise BadProgram("no program")


def are_cells(value):
    """Whether a value is the cells of a program."""
    if not is_tuple(value, 0, 4) or not all([is_cell(cell) for cell in value]):
        return False
    return len(set([name for name, _ in value])) == len(value)


def is_cell(value):
    """Whether a value is a pair of a name and a number of values."""
    return is_tuple(value, 2, 2) and is_word(value[0]) and is_within(value[1], 2, 6)


def is_block(cells, value):
    """Whether a value is a program's own block; cells are how many values each name has."""
    waiting = [(value, 1)]
    many = 0
    while waiting:
        block, deep = waiting.pop()
        if deep > MOST_DEEP or not is_tuple(block, 0, MOST_PARTS - many):
            return False
        many += len(block)
        for part in block:
            inner = blocks_in(cells, part)
            if inner is None:
                return False
            waiting.extend([(within, deep + 1) for within in inner])
    return True


def blocks_in(cells, part):
    """The blocks of a part, which are not looked at; None for a value that is no part, whatever its blocks are."""
    if part == ("stop",):
        return []
    if not is_tuple(part, 2, 4):
        return None
    kind = part[0]
    if kind == "say":
        return [] if len(part) == 2 and is_word(part[1]) else None
    if kind == "set":
        return [] if is_setting(cells, part) else None
    if kind == "choose":
        return [block for _, block in part[1]] if len(part) == 2 and are_choices(part[1]) else None
    if (kind == "if" and len(part) == 4) or (kind == "while" and len(part) == 3):
        return list(part[2:]) if is_test(cells, part[1]) else None
    return None


def is_setting(cells, part):
    """Whether a part that begins with "set" is one."""
    if len(part) != 4 or not is_name(cells, part[1]):
        return False
    return (part[2] is None or is_name(cells, part[2])) and is_within(part[3], 0, 5)


def is_name(cells, value):
    """Whether a value is the name of a cell."""
    return isinstance(value, str) and value in cells


def is_test(cells, value):
    """Whether a value is a test of a cell."""
    if not is_tuple(value, 3, 3) or not is_name(cells, value[0]):
        return False
    return isinstance(value[1], bool) and is_within(value[2], 0, cells[value[0]] - 1)


def are_choices(value):
    """Whether a value is the options of a choice, whatever their blocks are."""
    return is_tuple(value, 1, 6) and all([
        is_tuple(option, 2, 2) and (option[0] is None or is_word(option[0])) for option in value])
