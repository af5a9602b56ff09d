"""The runs of a program, which is not checked (point 40)."""

from onelife.errors import Endless


class Script:
    """A program whose unlike parts have numbers, so that what is still to do is a tuple of numbers.

    What is still to do of blocks within blocks stands in one row, a while behind its own block once more. A stand is
    a pair of the cells' values and what is still to do, nothing at an end.
    """

    def __init__(self, program):
        cells, block = program
        self.sizes = [size for _, size in cells]
        self.places = {name: at for at, (name, _) in enumerate(cells)}
        self.parts = []
        self.numbers = {}
        self.whole = self._block_coded(block)

    def first_stand(self):
        """The stand to which a run goes on from the start."""
        return self.stand_from((0,) * len(self.sizes), self.whole)

    def ways_from(self, stand):
        """For each option of a stand its word and what is still to do behind it."""
        cells, todo = stand
        if not todo:
            return []
        part = self.parts[todo[0]]
        if part[0] == "say":
            return [(part[1], todo[1:])]
        return [(word, block + todo[1:]) for word, block in part[1]]

    def stand_from(self, cells, todo):
        """The stand to which a run goes on by itself with these values and what is still to do."""
        known = {}
        while todo:
            part = self.parts[todo[0]]
            if part[0] in ("choose", "say"):
                return cells, todo
            if part[0] == "stop":
                return cells, ()
            # Only by a while a run can come to where it was.
            if part[0] == "while":
                if (cells, todo) in known:
                    raise Endless("a run that goes on for ever by itself")
                known[(cells, todo)] = True
            cells, todo = self._one_more(part, cells, todo)
        return cells, ()

    def _one_more(self, part, cells, todo):
        if part[0] == "set":
            return self._with_set(part, cells), todo[1:]
        at, equal, number = part[1]
        holds = (cells[at] == number) == equal
        if part[0] == "if":
            return cells, (part[2] if holds else part[3]) + todo[1:]
        return cells, part[2] + todo if holds else todo[1:]

    def _with_set(self, part, cells):
        _, at, source, number = part
        value = number if source is None else cells[source] + number
        return cells[:at] + (value % self.sizes[at],) + cells[at + 1:]

    def _block_coded(self, block):
        return tuple([self._number_of(self._part_coded(part)) for part in block])

    def _number_of(self, coded):
        if coded not in self.numbers:
            self.numbers[coded] = len(self.parts)
            self.parts.append(coded)
        return self.numbers[coded]

    def _part_coded(self, part):
        """A part with places for the names of its cells and with numbers for the parts of its blocks."""
        kind = part[0]
        if kind == "set":
            _, name, source, number = part
            return kind, self.places[name], None if source is None else self.places[source], number
        if kind == "choose":
            return kind, tuple([(word, self._block_coded(block)) for word, block in part[1]])
        if kind in ("say", "stop"):
            return part
        name, equal, number = part[1]
        return (kind, (self.places[name], equal, number)) + tuple([self._block_coded(block) for block in part[2:]])
