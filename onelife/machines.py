"""Machines and their lives (point 2)."""

from onelife.checks import check_life, check_machine, check_number
from onelife.errors import TooMany
from onelife.walks import coming_states, state_behind, words_along

MOST_LIVES = 5000


def end_of(machine, life):
    """The state to which a life leads."""
    check_machine(machine)
    check_life(machine, life)
    return state_behind(machine, life)


def words_of(machine, life):
    """The words that a life says, in order; an option that says nothing adds none."""
    check_machine(machine)
    check_life(machine, life)
    return tuple([word for word in words_along(machine, life) if word is not None])


def lives(machine, length):
    """All lives of at most so many options, ascending."""
    check_machine(machine)
    check_number(length, 0, 8)
    found = [()]
    newest = [()]
    for _ in range(length):
        longer = []
        for life in newest:
            longer.extend([life + (option,) for option in range(len(machine[state_behind(machine, life)]))])
        found.extend(longer)
        # Asked at each length, so that a large machine ends here and not with a million lives.
        if len(found) > MOST_LIVES:
            raise TooMany(MOST_LIVES)
        newest = longer
    return tuple(sorted(found))


def can_come(machine):
    """The states to which lives lead, ascending."""
    check_machine(machine)
    return tuple(coming_states(machine))


def is_loud(machine):
    """Whether each state that can come with a choice says an unlike word for each option."""
    check_machine(machine)
    return all([_is_loud_state(machine[state]) for state in coming_states(machine)])


def _is_loud_state(state):
    words = [word for _, word in state]
    return len(state) < 2 or (None not in words and len(set(words)) == len(words))
