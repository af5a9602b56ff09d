"""Purses and tickets (points 42 and 43)."""

from onelife.checks import are_integers, check_heard, check_marks, check_number, check_table, is_tuple, is_within
from onelife.errors import BadHouse, BadStory, TooMany
from onelife.numberings import Numbering
from onelife.stories import World, lived

MOST_STATES = 40
MOST_STEPS = 9
PERSONS = "abc"


def check_till(till):
    """Raise BadHouse for a value that is no till."""
    if not is_tuple(till, 3, 3) or not are_purses(till[0]) or not is_within(till[1], 0, 2):
        raise BadHouse("no till")
    if not is_tuple(till[2], 1, 6) or not all([is_deed(deed, len(till[0])) for deed in till[2]]):
        raise BadHouse("a till without deeds that are ones")
    if len(set(till[2])) < len(till[2]):
        raise BadHouse("a till with a deed twice")


def are_purses(value):
    """Whether a value is the purses of a till."""
    return is_tuple(value, 2, 3) and are_integers(value, 3, 0, 3)


def is_deed(value, persons):
    """Whether a value is a deed of a till with so many persons."""
    if not is_tuple(value, 2, 3) or not all([is_within(person, 0, persons - 1) for person in value[1:]]):
        return False
    if len(value) == 2:
        return value[0] in ("give", "take")
    return value[0] == "pay" and value[1] != value[2]


def word_of(deed):
    """The word of a deed."""
    return deed[0] + "".join([PERSONS[person] for person in deed[1:]])


def changed_by(deed, purses, out):
    """The purses and how many tickets are out behind a deed, also if it cannot be done."""
    coins = list(purses)
    if deed[0] == "take":
        coins[deed[1]] += 1
        return tuple(coins), out - 1
    coins[deed[1]] -= 1
    if deed[0] == "give":
        return tuple(coins), out + 1
    coins[deed[2]] += 1
    return tuple(coins), out


def stand_behind(till, stand, deed):
    """The stand behind a deed, None if it cannot be done."""
    purses, out = changed_by(deed, stand[0], stand[1])
    return (purses, out) if min(purses) >= 0 and 0 <= out <= till[1] else None


def till_machine(till):
    """The machine of a till, whose states are its stands."""
    check_till(till)
    machine, _ = _stands_told(till)
    return machine


def till_stands(till):
    """The stands of the states of a till's machine."""
    check_till(till)
    _, stands = _stands_told(till)
    return stands


def _stands_told(till):
    stands = Numbering((till[0], 0))
    machine = []
    while len(machine) < len(stands.numbered):
        behind = [(stand_behind(till, stands.numbered[len(machine)], deed), word_of(deed)) for deed in till[2]]
        machine.append(tuple([(stands.number_of(stand), word) for stand, word in behind if stand is not None]))
        if len(stands.numbered) > MOST_STATES:
            raise TooMany(MOST_STATES)
    return tuple(machine), tuple(stands.numbered)


def held_by(till, heard):
    """The stand to which the deeds that were heard lead, each pair once, by their numbers; None if they can't be."""
    check_till(till)
    check_heard(heard)
    deeds = {word_of(deed): deed for deed in till[2]}
    told = sorted(set(heard))
    numbers = [number for number, _ in told]
    if len(set(numbers)) < len(numbers):
        return None
    stand = (till[0], 0)
    for _, word in told:
        stand = stand_behind(till, stand, deeds[word]) if word in deeds else None
        if stand is None:
            return None
    return stand


def too_much(till, heard):
    """How many coins too many people count who believe all deeds that were heard."""
    check_till(till)
    check_heard(heard)
    return coins_too_many(till, heard)


def coins_too_many(till, heard):
    """What too_much returns, nothing being checked."""
    deeds = {word_of(deed): deed for deed in till[2]}
    purses, out = till[0], 0
    for _, word in sorted(set(heard)):
        if word not in deeds:
            return 0
        purses, out = changed_by(deeds[word], purses, out)
    return sum([max(0, coins) for coins in purses]) + max(0, out) - sum(till[0])


def most_too_much(till, marks, table, most):
    """The greatest too_much of what is heard behind a story of at most so many steps."""
    machine = _machine_checked(till, marks, table, most)
    return greatest(till, machine, table, most)


def shows_worst(till, marks, table, most, value):
    """Whether a value is a story of at most so many steps behind which too_much is the greatest."""
    machine = _machine_checked(till, marks, table, most)
    if not is_tuple(value, 0, most):
        return False
    try:
        told = lived(machine, table, value).sayings
    except BadStory:
        return False
    return coins_too_many(till, told) == greatest(till, machine, table, most)


def _machine_checked(till, marks, table, most):
    machine = till_machine(till)
    check_marks(marks)
    check_table(machine, marks, table)
    check_number(most, 0, MOST_STEPS)
    return machine


def greatest(till, machine, table, most):
    """What most_too_much returns, nothing being checked: searched step by step, each world but once."""
    found = 0
    worlds = [World(machine, table)]
    for _ in range(most):
        later = {}
        for world in worlds:
            for step in world.open_steps():
                following = world.behind(step)
                told = tuple(sorted(set(following.sayings)))
                later[(following.reading, tuple(following.notes), following.standing, told)] = following
        worlds = list(later.values())
        found = max([found] + [coins_too_many(till, world.sayings) for world in worlds])
    return found
