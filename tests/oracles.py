"""The promises told once more, in the plainest way, so that the package's answers are held to them."""

from itertools import product


def begins(one, other):
    return len(one) <= len(other) and all(left == right for left, right in zip(one, other))


def along(one, other):
    return begins(one, other) or begins(other, one)


def follow(machine, table, life):
    """(state, marks spelled, pairs told) of a life."""
    state, marks, told = 0, (), ()
    for option in life:
        marks += table[state][option]
        state, word = machine[state][option]
        if word is not None:
            told += ((len(marks), word),)
    return state, marks, told


def lives_within(machine, table, most):
    """All lives that spell at most so many marks, with what they spell and tell."""
    found, waiting = [], [()]
    while waiting:
        life = waiting.pop()
        state, marks, told = follow(machine, table, life)
        if len(marks) <= most:
            found.append((life, marks, told))
            waiting.extend([life + (option,) for option in range(len(machine[state]))])
    return found


def do_part(machine, table, one, other):
    _, marks, told = follow(machine, table, one)
    _, others, heard = follow(machine, table, other)
    return along(marks, others) and not along(told, heard)


def fewest_marks(machine, table, most):
    """The fewest marks of the longer one of two lives that part, both spelling at most so many; None if none do."""
    known = {}
    for _, marks, told in lives_within(machine, table, most):
        known.setdefault(marks, set()).add(told)
    for long in range(most + 1):
        for marks, tellings in known.items():
            if len(marks) == long:
                for cut in range(long + 1):
                    for told in known.get(marks[:cut], ()):
                        if any(not along(told, longer) for longer in tellings):
                            return long
    return None


def states_from(machine, state):
    found = {state}
    while True:
        more = {target for at in found for target, _ in machine[at]} - found
        if not more:
            return found
        found |= more


def can_say(machine, table, place):
    state, option, _ = place
    if option is None:
        return any(word is not None for at in states_from(machine, state) for _, word in machine[at])
    target, word = machine[state][option]
    return word is not None or can_say(machine, table, (target, None, 0))


def go_on(machine, table, place):
    """The place behind the next mark, and the word said, if any."""
    state, option, done = place
    if done + 1 < len(table[state][option]):
        return (state, option, done + 1), None
    target, word = machine[state][option]
    return (target, None, 0), word


def wanted_beside(machine, table, one, other):
    """The set of pairs that a paper with this pair must have; None if it doesn't hold."""
    wanted = set()
    if one[1] is None:
        wanted |= {((one[0], option, 0), other) for option in range(len(machine[one[0]]))}
    if other[1] is None:
        wanted |= {(one, (other[0], option, 0)) for option in range(len(machine[other[0]]))}
    if one[1] is None or other[1] is None:
        return wanted
    if table[one[0]][one[1]][one[2]] != table[other[0]][other[1]][other[2]]:
        return set()
    (here, word), (there, said) = go_on(machine, table, one), go_on(machine, table, other)
    if word == said:
        return {(here, there)}
    if word is not None and said is not None:
        return None
    return None if can_say(machine, table, here if word is None else there) else set()


def pair_key(pair):
    return [tuple([-1 if part is None else part for part in place]) for place in pair]


def least_paper(machine, table):
    """The least paper that holds, of any length; None if none holds."""
    start = ((0, None, 0), (0, None, 0))
    found, waiting = {start}, [start]
    while waiting:
        wanted = wanted_beside(machine, table, *waiting.pop())
        if wanted is None:
            return None
        waiting.extend(wanted - found)
        found |= wanted
    return tuple(sorted(found, key=pair_key))


def all_rows(marks, longest):
    return [row for length in range(1, longest + 1) for row in product(range(marks), repeat=length)]


def are_apart(rows):
    return not any(begins(one, other) for at, one in enumerate(rows) for to, other in enumerate(rows) if at != to)


def apart_lengths(marks, many, longest):
    """The length tuples of so many apart rows of at most so many marks, by Kraft and McMillan."""
    return [lengths for lengths in product(range(1, longest + 1), repeat=many)
            if sum([marks ** (longest - length) for length in lengths]) <= marks ** longest]


class Story:
    """The world behind the steps of a story, told step by step; bad is the index of the first wrong one."""

    def __init__(self, machine, table, steps):
        self.machine, self.table = machine, table
        self.count, self.mark, self.shelf = 0, None, [(0, None, (), 0)]
        self.power, self.life, self.sealed = "off", None, None
        self.heard, self.spoken, self.bad = [], [], None
        for index, step in enumerate(steps):
            if step not in self.steps():
                self.bad = index
                return
            self.do(step)

    def steps(self):
        """All steps that can be done now."""
        if self.power == "off":
            return [("boot", note) for note in self.shelf]
        if self.power == "choice":
            state, _, _ = follow(self.machine, self.table, self.life)
            return [("cut",)] + [("ask", option) for option in range(len(self.machine[state]))]
        return [("cut",), ("turn",)] if self.power == "sealed" else [("cut",)]

    def do(self, step):
        if step[0] == "cut":
            self.power = "off"
        elif step[0] == "turn":
            self.count, self.mark, life, done = self.sealed
            self.stand(life, done)
        elif step[0] == "ask":
            self.stand(self.life + (step[1],), 0)
        elif step[1][:2] == (self.count, self.mark):
            self.stand(*step[1][2:])
        else:
            self.power = "mute"

    def stand(self, life, done):
        before, _, _ = follow(self.machine, self.table, life[:-1])
        if life and done < len(self.table[before][life[-1]]):
            self.sealed = (self.count + 1, self.table[before][life[-1]][done], life, done + 1)
            self.power = "sealed"
            if self.sealed not in self.shelf:
                self.shelf.append(self.sealed)
            return
        self.power, self.life = "choice", life
        if life and self.machine[before][life[-1]][1] is not None:
            self.heard.append((self.count, self.machine[before][life[-1]][1]))
            if life not in self.spoken:
                self.spoken.append(life)

    def stands(self):
        if self.power == "choice":
            return "choice", self.life
        return ("sealed", self.sealed) if self.power == "sealed" else (self.power,)

    def two_lives(self):
        told = [follow(self.machine, self.table, life)[2] for life in self.spoken]
        for later in range(len(told)):
            for earlier in range(later):
                if not along(told[later], told[earlier]):
                    return self.spoken[earlier], self.spoken[later]
        return None
