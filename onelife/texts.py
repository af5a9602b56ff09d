"""Machines with their tables as text (point 18)."""

from onelife.checks import check_machine, check_string, check_table, is_word
from onelife.errors import BadLine

MOST_STATES = 40
MOST_OPTIONS = 6
MOST_MARKS = 8
MARKS = ("0", "1", "2", "3")


def write_machine(machine, table):
    """The text of a machine with its table of marks up to 3."""
    check_machine(machine)
    check_table(machine, len(MARKS), table)
    lines = []
    for state, options in enumerate(machine):
        lines.append(f"= {state}")
        lines.extend([_option_line(option, row) for option, row in zip(options, table[state])])
    return "\n".join(lines)


def _option_line(option, row):
    target, word = option
    words = ["-" if word is None else word, str(target)] + [str(mark) for mark in row]
    return " ".join(words)


def read_machine(text):
    """The pair of the machine and the table that a text tells."""
    check_string(text)
    states = []
    for number, words in enumerate(lines_in(text), start=1):
        wrong = wrong_word(states, words)
        if wrong is not None:
            raise BadLine(number, wrong)
        if words[0] == "=":
            states.append([])
        else:
            states[-1].append((number, words))
    _check_targets(states)
    return tuple([_state_of(lines) for lines in states]), tuple([_rows_of(lines) for lines in states])


def lines_in(text):
    """The words of each line of a text."""
    # Only spaces part words: anything else, such as a tab, belongs to a word that can't stand then.
    return [[word for word in line.split(" ") if word] for line in text.split("\n")]


def wrong_word(states, words):
    """The first word of a line that cannot stand behind these states, counted from 1, None without one."""
    if not words:
        return 1
    if words[0] == "=":
        return _wrong_in_state(len(states), words)
    fits = words[0] == "-" or is_word(words[0])
    if not fits or not states or len(states[-1]) == MOST_OPTIONS:
        return 1
    return _wrong_in_option(words)


def _wrong_in_state(number, words):
    if number == MOST_STATES:
        return 1
    if len(words) < 2 or words[1] != str(number):
        return 2
    return 3 if len(words) > 2 else None


def _wrong_in_option(words):
    if len(words) < 2 or words[1] not in [str(number) for number in range(MOST_STATES)]:
        return 2
    if len(words) < 3:
        return 3
    for at, word in enumerate(words[2:]):
        if at == MOST_MARKS or word not in MARKS:
            return at + 3
    return None


def _check_targets(states):
    # Asked only behind all lines, because an option may lead to a state that is told below it.
    for number, words in [line for lines in states for line in lines]:
        if int(words[1]) >= len(states):
            raise BadLine(number, 2)


def _state_of(lines):
    return tuple([(int(words[1]), None if words[0] == "-" else words[0]) for _, words in lines])


def _rows_of(lines):
    return tuple([tuple([int(word) for word in words[2:]]) for _, words in lines])
