"""The search for the fewest marks by which two lives part (point 7)."""

from onelife.places import Ground


class Search:
    """A search, mark by mark, for places at which two lives that told the same begin to tell otherwise.

    ground: the places of the machine with its table.
    fewest: the fewest marks by which two lives part, None if none part.
    last: the pair of places ahead of the mark behind which those two no longer tell the same.
    origins: for each pair of places that was found the pair one mark ahead of it.
    """

    def __init__(self, machine, table):
        self.ground = Ground(machine, table)
        self.fewest = None
        self.last = None
        self.origins = {(0, 0): None}
        pairs = [(0, 0)]
        many = 1
        # A parting that shows itself at a later mark has at least that many marks.
        while pairs and (self.fewest is None or many < self.fewest):
            pairs = self._pairs_behind(pairs, many)
            many += 1

    def _pairs_behind(self, pairs, many):
        later = []
        for pair in pairs:
            for first, second in moves_alike(self.ground, pair[0], pair[1]):
                if first[2] == second[2]:
                    later.extend(self._new_pairs(pair, first[1], second[1]))
                else:
                    self._note_parting(pair, many, marks_more(self.ground, first, second))
        return later

    def _new_pairs(self, pair, one, other):
        # Where one of two can't say a word any more, its telling begins the other's for ever.
        if self.ground.waits[one] is None or self.ground.waits[other] is None:
            return []
        following = ascending(one, other)
        if following in self.origins:
            return []
        self.origins[following] = pair
        return [following]

    def _note_parting(self, pair, many, more):
        if more is not None and (self.fewest is None or many + more < self.fewest):
            self.fewest = many + more
            self.last = pair


def ascending(one, other):
    """Two places as a pair with the lesser one first, since lives part the same the other way round."""
    return (one, other) if one <= other else (other, one)


def moves_alike(ground, one, other):
    """The pairs of moves from two places by the same mark."""
    return [(first, second) for first in ground.moves[one] for second in ground.moves[other] if first[0] == second[0]]


def marks_more(ground, first, second):
    """How many marks behind two steps with unlike words the two lives part, None if never."""
    if first[2] is not None and second[2] is not None:
        return 0
    silent = first if first[2] is None else second
    return ground.waits[silent[1]]


def lives_apart(search):
    """Two lives that part by the fewest marks, of a search that found some."""
    ground = search.ground
    one, other = [], []
    here, there = 0, 0
    for pair in pairs_to_last(search):
        first, second = moves_to(ground, here, there, pair)
        take_option(one, first)
        take_option(other, second)
        here, there = first[1], second[1]
    first, second = parting_moves(ground, here, there)
    return tuple(one + options_to_word(ground, first)), tuple(other + options_to_word(ground, second))


def pairs_to_last(search):
    """The pairs of places behind each mark, up to the last one ahead of the parting."""
    pairs = []
    pair = search.last
    while search.origins[pair] is not None:
        pairs.append(pair)
        pair = search.origins[pair]
    return pairs[::-1]


def moves_to(ground, one, other, pair):
    """Two moves by the same mark, with the same word or none, that lead from two places to a pair of places."""
    found = []
    for first, second in moves_alike(ground, one, other):
        if first[2] == second[2] and ascending(first[1], second[1]) == pair:
            found.append((first, second))
    return found[0]


def parting_moves(ground, one, other):
    """The two moves by the same mark behind which lives at two places part by the fewest marks."""
    found = None
    fewest = None
    for first, second in moves_alike(ground, one, other):
        if first[2] == second[2]:
            continue
        more = marks_more(ground, first, second)
        if more is not None and (fewest is None or more < fewest):
            found, fewest = (first, second), more
    return found


def take_option(options, move):
    """Add the option of a move to others, if one is taken with it."""
    if move[3] is not None:
        options.append(move[3])


def options_to_word(ground, move):
    """The options that are taken with a move and behind it, until a word is said, by as few marks as can be."""
    options = []
    take_option(options, move)
    while move[2] is None:
        move = quickest_move(ground, move[1])
        take_option(options, move)
    return options


def quickest_move(ground, number):
    """A move from a place from which the next word can come as soon as from no other move there."""
    found = None
    for move in ground.moves[number]:
        wait = 0 if move[2] is not None else ground.waits[move[1]]
        # The place's own wait counts the mark of the move, too.
        if wait is not None and wait + 1 == ground.waits[number]:
            found = move
    return found
