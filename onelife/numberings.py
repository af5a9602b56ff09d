"""Things that are numbered as they are first come to."""


class Numbering:
    """Unlike things with their numbers from 0, a first one being there.

    numbered: the things in the order of their numbers.
    """

    def __init__(self, first):
        self.numbered = [first]
        self._numbers = {first: 0}

    def number_of(self, thing):
        """The number of a thing, the next one if it has none yet."""
        if thing not in self._numbers:
            self._numbers[thing] = len(self.numbered)
            self.numbered.append(thing)
        return self._numbers[thing]
