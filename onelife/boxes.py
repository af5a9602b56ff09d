"""Machines made of machines (point 14)."""

from onelife.checks import check_machine, check_number
from onelife.errors import TooMany

MOST_STATES = 40
MOST_OPTIONS = 6
MOST_LETTERS = 8


def gathered(machine, many):
    """The machine that waits for so many options of another one before it speaks."""
    check_machine(machine)
    check_number(many, 1, 3)
    ways = [ways_from(machine, state, many) for state in range(len(machine))]
    _check_options(ways)
    made = tuple([tuple([_joined_option(way) for way in state]) for state in ways])
    if any([word is not None and len(word) > MOST_LETTERS for state in made for _, word in state]):
        raise TooMany(MOST_LETTERS)
    return made


def ways_from(machine, state, many):
    """For each life of so many options from a state, or of fewer to one without options, where it leads and its words.

    They stand in the ascending order of the lives.
    """
    if not machine[state]:
        return []
    ways = [(state, [])]
    for _ in range(many):
        ways = [longer for way in ways for longer in _one_more(machine, way)]
    return ways


def _one_more(machine, way):
    state, words = way
    if not machine[state]:
        return [way]
    return [(target, words + [word]) for target, word in machine[state]]


def _joined_option(way):
    target, words = way
    said = [word for word in words if word is not None]
    return target, "".join(said) if said else None


def _check_options(states):
    if any([len(options) > MOST_OPTIONS for options in states]):
        raise TooMany(MOST_OPTIONS)


def joined(one, other):
    """The machine of two machines at one wheel, of which one goes on while the other stays."""
    check_machine(one)
    check_machine(other)
    if len(one) * len(other) > MOST_STATES:
        raise TooMany(MOST_STATES)
    made = tuple([
        _both_options(one, other, first, second) for first in range(len(one)) for second in range(len(other))])
    _check_options(made)
    return made


def _both_options(one, other, first, second):
    many = len(other)
    ours = [(target * many + second, word) for target, word in one[first]]
    theirs = [(first * many + target, word) for target, word in other[second]]
    return tuple(ours + theirs)
