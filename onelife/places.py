"""The places of a machine with its table, numbered, and where they lead (point 8)."""


class Ground:
    """All places of a machine with its table, as numbers that ascend as the places do.

    places: the place of each number.
    numbers: the number of each place.
    starts: for a choice the places on the way by each of its options, no mark being done; otherwise none.
    steps: for a place on the way (mark, place, word) of its next mark; None for a choice.
    moves: (mark, place, word, option) of each mark that can be next, option None where it was taken before.
    waits: the fewest marks to the next word from each place, None where no word can be said any more.
    """

    def __init__(self, machine, table):
        self.places = places_of(table)
        self.numbers = {place: number for number, place in enumerate(self.places)}
        self.starts = [self._starts_of(table, place) for place in self.places]
        self.steps = [self._step_of(machine, table, place) for place in self.places]
        self.moves = [self._moves_of(number) for number in range(len(self.places))]
        waits = waits_of(machine, table)
        self.waits = [wait_at(machine, table, waits, place) for place in self.places]

    def _starts_of(self, table, place):
        state, option, _ = place
        if option is not None:
            return []
        return [self.numbers[(state, taken, 0)] for taken in range(len(table[state]))]

    def _step_of(self, machine, table, place):
        state, option, done = place
        if option is None:
            return None
        row = table[state][option]
        if done + 1 < len(row):
            return row[done], self.numbers[(state, option, done + 1)], None
        target, word = machine[state][option]
        return row[done], self.numbers[(target, None, 0)], word

    def _moves_of(self, number):
        if self.steps[number] is not None:
            return [self.steps[number] + (None,)]
        return [self.steps[start] + (option,) for option, start in enumerate(self.starts[number])]


def places_of(table):
    """All places of a table's machine, ascending, None being less than any integer."""
    found = []
    for state, rows in enumerate(table):
        found.append((state, None, 0))
        for option, row in enumerate(rows):
            found.extend([(state, option, done) for done in range(len(row))])
    return found


def waits_of(machine, table):
    """For each state the fewest marks to the next word from its choice, None if none can be said."""
    waits = [None] * len(machine)
    changed = True
    while changed:
        changed = False
        for state, options in enumerate(machine):
            ways = [wait_by(option, row, waits) for option, row in zip(options, table[state])]
            least = min([way for way in ways if way is not None], default=None)
            if least != waits[state]:
                waits[state] = least
                changed = True
    return waits


def wait_by(option, marks_left, waits):
    """The fewest marks to the next word by an option of whose row these marks are left, None if none can be."""
    target, word = option
    if word is not None:
        return len(marks_left)
    return None if waits[target] is None else len(marks_left) + waits[target]


def wait_at(machine, table, waits, place):
    """The fewest marks to the next word from a place, None if none can be said."""
    state, option, done = place
    if option is None:
        return waits[state]
    return wait_by(machine[state][option], table[state][option][done:], waits)
