"""Whether values are of the kinds that the document allows, and the errors for those that are not."""

from onelife.errors import (
    BadHeard, BadLengths, BadLife, BadMachine, BadManner, BadMarks, BadNumber, BadRows, BadSpelled, BadString, BadTable,
    BadWeights)

MANNERS = ("sealed", "late", "early", "counted", "open")


def is_number(value):
    """Whether a value is an integer; True and False are none here, though Python counts them as 1 and 0."""
    return isinstance(value, int) and not isinstance(value, bool)


def is_within(value, low, high):
    """Whether a value is an integer from low to high."""
    return is_number(value) and low <= value <= high


def is_tuple(value, fewest, most):
    """Whether a value is a tuple of fewest to most things."""
    return isinstance(value, tuple) and fewest <= len(value) <= most


def is_word(value):
    """Whether a value is a string of 1 to 8 letters a to z."""
    return isinstance(value, str) and 1 <= len(value) <= 8 and all("a" <= letter <= "z" for letter in value)


def is_option(value, states):
    """Whether a value is an option of a machine of so many states."""
    if not is_tuple(value, 2, 2) or not is_within(value[0], 0, states - 1):
        return False
    return value[1] is None or is_word(value[1])


def is_state(value, states):
    """Whether a value is a state of a machine of so many states."""
    return is_tuple(value, 0, 6) and all(is_option(option, states) for option in value)


def is_life(machine, value):
    """Whether a value is a life of a machine."""
    if not is_tuple(value, 0, 40):
        return False
    state = 0
    for option in value:
        if not is_within(option, 0, len(machine[state]) - 1):
            return False
        state = machine[state][option][0]
    return True


def is_row(value, marks, longest=8):
    """Whether a value is a row of at most so many of these marks."""
    return is_tuple(value, 1, longest) and all(is_within(mark, 0, marks - 1) for mark in value)


def are_rows(value, marks, many):
    """Whether a value is a tuple of so many rows of these marks."""
    return is_tuple(value, many, many) and all(is_row(row, marks) for row in value)


def check_machine(machine):
    """Raise BadMachine for a value that is no machine."""
    if not is_tuple(machine, 1, 40):
        raise BadMachine(None)
    for index, state in enumerate(machine):
        if not is_state(state, len(machine)):
            raise BadMachine(index)


def check_life(machine, life):
    """Raise BadLife for a value that is no life of a machine."""
    if not is_life(machine, life):
        raise BadLife("no life of this machine")


def check_number(value, low, high):
    """Raise BadNumber for a value that is no integer from low to high."""
    if not is_within(value, low, high):
        raise BadNumber(f"no integer from {low} to {high}")


def check_marks(marks):
    """Raise BadMarks for a value that is no number of marks."""
    if not is_within(marks, 1, 4):
        raise BadMarks("no integer from 1 to 4")


def check_table(machine, marks, table):
    """Raise BadTable for a value that is no table of a machine for these marks."""
    if not is_tuple(table, len(machine), len(machine)):
        raise BadTable(None)
    for index, rows in enumerate(table):
        if not are_rows(rows, marks, len(machine[index])):
            raise BadTable(index)


def check_setting(machine, marks, table):
    """Raise the error of the first of these three that is wrong."""
    check_machine(machine)
    check_marks(marks)
    check_table(machine, marks, table)


def check_rows(rows, marks=4):
    """Raise BadRows for a value that is no tuple of 0 to 40 rows of these marks."""
    if not is_tuple(rows, 0, 40) or not all(is_row(row, marks) for row in rows):
        raise BadRows(f"no tuple of 0 to 40 rows of {marks} marks")


def are_integers(value, most, low, high):
    """Whether a value is a tuple of 1 to most integers from low to high."""
    return is_tuple(value, 1, most) and all(is_within(number, low, high) for number in value)


def check_lengths(lengths):
    """Raise BadLengths for a value that is no tuple of lengths."""
    if not are_integers(lengths, 40, 1, 12):
        raise BadLengths("no tuple of 1 to 40 integers from 1 to 12")


def check_weights(weights):
    """Raise BadWeights for a value that is no tuple of weights."""
    if not are_integers(weights, 12, 0, 1000):
        raise BadWeights("no tuple of 1 to 12 integers from 0 to 1000")


def check_chances(machine, weights):
    """Raise BadWeights for a value that is no chances of a machine."""
    if not is_tuple(weights, len(machine), len(machine)):
        raise BadWeights("no tuple of so many things as there are states")
    for state, numbers in zip(machine, weights):
        fits = is_tuple(numbers, len(state), len(state)) and all(is_within(number, 1, 1000) for number in numbers)
        if not fits:
            raise BadWeights("no tuple of an integer from 1 to 1000 for each option of a state")


def check_manner(manner):
    """Raise BadManner for a value that is no manner."""
    if manner not in MANNERS:
        raise BadManner("no manner")


def check_string(text):
    """Raise BadString for a value that is no string."""
    if not isinstance(text, str):
        raise BadString("no string")


def is_heard_pair(value):
    """Whether a value is a pair of a number and a word that can have been heard."""
    return is_tuple(value, 2, 2) and is_within(value[0], 0, 320) and is_word(value[1])


def check_heard(heard):
    """Raise BadHeard for a value that is not what was heard."""
    if not is_tuple(heard, 0, 40):
        raise BadHeard(None)
    for index, pair in enumerate(heard):
        if not is_heard_pair(pair):
            raise BadHeard(index)


def check_spelled(marks, spelled):
    """Raise BadSpelled for a value that is no tuple of 0 to 40 of these marks."""
    if not is_tuple(spelled, 0, 40) or not all([is_within(mark, 0, marks - 1) for mark in spelled]):
        raise BadSpelled(f"no tuple of 0 to 40 of {marks} marks")
