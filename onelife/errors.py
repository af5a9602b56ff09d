"""All errors of the package."""


class LifeError(ValueError):
    """The base class of all errors of the package."""


class BadMachine(LifeError):
    """A value is no machine; index is its first state that is none, None if it is no tuple of 1 to 40 things."""

    def __init__(self, index):
        super().__init__(f"no machine, first at state {index}")
        self.index = index


class BadLife(LifeError):
    """A value is no life of the machine."""


class BadNumber(LifeError):
    """A value is no integer of those that are allowed."""


class BadMarks(LifeError):
    """A value is no number of marks."""


class BadTable(LifeError):
    """A value is no table of the machine; index is the first state with wrong rows, None if it has not so many."""

    def __init__(self, index):
        super().__init__(f"no table of the machine, first at state {index}")
        self.index = index


class BadRows(LifeError):
    """A value is no tuple of rows."""


class BadStory(LifeError):
    """A value is no story; index is the first step that cannot be done, None if it is no tuple of 0 to 200 steps."""

    def __init__(self, index):
        super().__init__(f"no story, first at step {index}")
        self.index = index


class NotAlong(LifeError):
    """The marks of neither of two lives begin those of the other one."""


class BadLengths(LifeError):
    """A value is no tuple of lengths."""


class BadWeights(LifeError):
    """A value is no tuple of weights."""


class NoTable(LifeError):
    """There is no such table."""


class NotApart(LifeError):
    """At a state that can come the row of an option begins that of another one; state is the first such state."""

    def __init__(self, state):
        super().__init__(f"rows that are not apart at state {state}")
        self.state = state


class BadManner(LifeError):
    """A value is no manner."""


class BadString(LifeError):
    """A value is no string."""


class BadLine(LifeError):
    """A text is wrong; line and word, counted from 1, are where."""

    def __init__(self, line, word):
        super().__init__(f"wrong at line {line}, word {word}")
        self.line = line
        self.word = word


class BadStep(LifeError):
    """A step cannot be done where it stands."""


class TooMany(LifeError):
    """An answer would need more than most of what the document limits."""

    def __init__(self, most):
        super().__init__(f"more than {most}")
        self.most = most


class BadProgram(LifeError):
    """A value is no program."""


class Endless(LifeError):
    """A run of a program goes on for ever by itself."""


class BadHouse(LifeError):
    """A value is no ports or no till."""


class BadHeard(LifeError):
    """A value is not what was heard; index is the first pair that is none, None if it is no tuple of 0 to 40."""

    def __init__(self, index):
        super().__init__(f"not what was heard, first at {index}")
        self.index = index


class BadSpelled(LifeError):
    """A value is no tuple of spelled marks."""
