"""Two houses and their letters told once more, so that ports are held to it."""

import copy

from tests.oracles import Story, follow


class Desk:
    """What a house has at hand: its coins, what it has sent, what it has taken."""

    def __init__(self, ports, side):
        self.letters, self.numbered = "abc"[:ports[2]], ports[3]
        self.coins, self.sent, self.taken = ports[side], "", ""

    def words(self):
        """The words of the deeds that can be done, in their order."""
        found = []
        if self.coins > 0 and len(self.sent) < len(self.letters):
            found.append("out" + self.letters[len(self.sent)])
        if self.numbered:
            return found + ["in" + letter for letter in self.letters[len(self.taken):][:1]]
        return found + ["in" + letter for letter in self.letters if self.coins < 6]

    def do(self, word):
        if word.startswith("out"):
            self.coins, self.sent = self.coins - 1, self.sent + word[3:]
        else:
            self.coins, self.taken = self.coins + 1, self.taken + (word[2:] if self.numbered else "")

    def stand(self):
        return self.coins, len(self.sent), len(self.taken)


def desk_behind(ports, side, life):
    """The desk behind a life, None if it is no life."""
    desk = Desk(ports, side)
    for option in life:
        words = desk.words()
        if not 0 <= option < len(words):
            return None
        desk.do(words[option])
    return desk


def machine_of(ports, side):
    """The machine of a house and its stands, found life by life."""
    first = Desk(ports, side)
    ways, stands, machine = [()], [first.stand()], []
    for way in ways:
        desk = desk_behind(ports, side, way)
        options = []
        for option, word in enumerate(desk.words()):
            behind = desk_behind(ports, side, way + (option,)).stand()
            if behind not in stands:
                stands.append(behind)
                ways.append(way + (option,))
            options.append((stands.index(behind), word))
        machine.append(tuple(options))
    return tuple(machine), stands


class Post:
    """Both houses behind the pairs of a story; bad is the index of the first one that can't be done."""

    def __init__(self, ports, tables, pairs=()):
        self.ports = ports
        self.houses = [Story(machine_of(ports, side)[0], tables[side], ()) for side in (0, 1)]
        self.bad = None
        for index, pair in enumerate(pairs):
            if pair not in self.pairs():
                self.bad = index
                return
            self.do(pair)

    def do(self, pair):
        self.houses[pair[0]].do(pair[1])

    def behind(self, pair):
        """The same behind one more pair, this one staying as it is."""
        later = copy.copy(self)
        later.houses = [copy.copy(house) for house in self.houses]
        for house in later.houses:
            house.shelf, house.heard, house.spoken = list(house.shelf), list(house.heard), list(house.spoken)
        later.do(pair)
        return later

    def pairs(self):
        """All pairs that can be done now."""
        return [(side, step) for side in (0, 1) for step in self.houses[side].steps() if self.lets(side, step)]

    def lets(self, side, step):
        if step[0] != "ask":
            return True
        house = self.houses[side]
        word = house.machine[follow(house.machine, house.table, house.life)[0]][step[1]][1]
        return word[:2] != "in" or "out" + word[2:] in [said for _, said in self.houses[1 - side].heard]

    def heard(self):
        return tuple([tuple(house.heard) for house in self.houses])

    def coins(self):
        """The most coins with which both houses can stand."""
        total = 0
        for side, house in enumerate(self.houses):
            most = 0
            for count, mark, life, done in house.shelf:
                if (count, mark) == (house.count, house.mark):
                    wholly = not life or done == len(house.table[follow(house.machine, house.table, life[:-1])[0]][life[-1]])
                    most = max(most, desk_behind(self.ports, side, life if wholly else life[:-1]).coins)
            total += most
        return total

    def longest(self):
        """The desks behind the first of the longest lives that have spoken of each house."""
        found = []
        for side, house in enumerate(self.houses):
            life = ()
            for other in house.spoken:
                if len(other) > len(life):
                    life = other
            found.append(desk_behind(self.ports, side, life))
        return found

    def on_the_way(self):
        one, other = [desk.stand() for desk in self.longest()]
        return one[1] - other[2], other[1] - one[2]


def posts_within(ports, tables, most):
    """Each story of both of at most so many pairs, the shorter ones first, with what is behind it."""
    found = [((), Post(ports, tables))]
    for story, post in found:
        if len(story) < most:
            found.extend([(story + (pair,), post.behind(pair)) for pair in post.pairs()])
    return found


def random_pairs(dice, ports, tables, length):
    """A story of both of so many pairs, of which cuts and boots with notes that don't fit are the rarer ones."""
    story, post = [], Post(ports, tables)
    for _ in range(length):
        pairs = post.pairs()
        wished = [(side, step) for side, step in pairs if step != ("cut",) and (
            step[0] != "boot" or step[1][:2] == (post.houses[side].count, post.houses[side].mark))]
        pair = dice.choice(wished if wished and dice.random() < 0.8 else pairs)
        story.append(pair)
        post.do(pair)
    return tuple(story)
