"""Two houses that send each other letters with coins (points 48 and 49)."""

from onelife.checks import check_life, check_marks, check_number, check_table, is_tuple, is_within
from onelife.errors import BadHouse, BadStory
from onelife.numberings import Numbering
from onelife.stories import MOST_STEPS, World
from onelife.walks import state_behind

MOST_COINS = 6
MOST_PAIRS = 9
LETTERS = "abc"


def check_ports(ports):
    """Raise BadHouse for a value that is no ports."""
    fits = is_tuple(ports, 4, 4) and is_within(ports[0], 0, 3) and is_within(ports[1], 0, 3)
    if not fits or not is_within(ports[2], 1, len(LETTERS)) or not isinstance(ports[3], bool):
        raise BadHouse("no ports")


def deeds_at(ports, stand):
    """The pairs (word, stand behind it) of the deeds that a house can do at a stand, in their order."""
    coins, sent, taken = stand
    _, _, letters, is_numbered = ports
    deeds = []
    if coins > 0 and sent < letters:
        deeds.append(("out" + LETTERS[sent], (coins - 1, sent + 1, taken)))
    if is_numbered and taken < letters:
        deeds.append(("in" + LETTERS[taken], (coins + 1, sent, taken + 1)))
    if not is_numbered and coins < MOST_COINS:
        deeds.extend([("in" + letter, (coins + 1, sent, taken)) for letter in LETTERS[:letters]])
    return deeds


def stand_along(ports, side, life):
    """The stand of a house behind a life, which is not checked."""
    stand = (ports[side], 0, 0)
    for option in life:
        _, stand = deeds_at(ports, stand)[option]
    return stand


def house_machine(ports, side):
    """The machine of a house, nothing being checked."""
    stands = Numbering((ports[side], 0, 0))
    machine = []
    while len(machine) < len(stands.numbered):
        deeds = deeds_at(ports, stands.numbered[len(machine)])
        machine.append(tuple([(stands.number_of(behind), word) for word, behind in deeds]))
    return tuple(machine)


def port_machine(ports, side):
    """The machine of the house of a side."""
    check_ports(ports)
    check_number(side, 0, 1)
    return house_machine(ports, side)


def port_stand(ports, side, life):
    """The stand (coins, sent, taken) of the house of a side behind a life of its machine."""
    check_life(port_machine(ports, side), life)
    return stand_along(ports, side, life)


def both_heard(ports, marks, one, other, story):
    """What was heard of each house in a story of both."""
    return tuple([tuple(world.sayings) for world in _worlds_behind(ports, marks, one, other, story)])


def coins_behind(ports, marks, one, other, story):
    """The sum of the most coins with which each house can stand behind a story of both."""
    return coins_standing(ports, _worlds_behind(ports, marks, one, other, story))


def on_the_way(ports, marks, one, other, story):
    """How many letters each house has sent less those that the other one has taken, in lives that have spoken."""
    worlds = _worlds_behind(ports, marks, one, other, story)
    lives = [max(list(world.speakers), key=len, default=()) for world in worlds]
    first, second = [stand_along(ports, side, life) for side, life in enumerate(lives)]
    return first[1] - second[2], second[1] - first[2]


def most_coins(ports, marks, one, other, most):
    """The greatest coins_behind of all stories of both of at most so many pairs."""
    worlds = _worlds_at_first(ports, marks, one, other)
    check_number(most, 0, MOST_PAIRS)
    return greatest_coins(ports, worlds, most)


def shows_coins(ports, marks, one, other, most, value):
    """Whether a value is a story of both of at most so many pairs behind which coins_behind is the greatest."""
    worlds = _worlds_at_first(ports, marks, one, other)
    check_number(most, 0, MOST_PAIRS)
    if not is_tuple(value, 0, most):
        return False
    try:
        behind = worlds_after(worlds, value)
    except BadStory:
        return False
    return coins_standing(ports, behind) == greatest_coins(ports, worlds, most)


def _worlds_at_first(ports, marks, one, other):
    """The worlds of both houses ahead of a story, once ports, marks and tables are checked."""
    check_ports(ports)
    check_marks(marks)
    machines = [house_machine(ports, side) for side in (0, 1)]
    check_table(machines[0], marks, one)
    check_table(machines[1], marks, other)
    return World(machines[0], one), World(machines[1], other)


def _worlds_behind(ports, marks, one, other, story):
    return worlds_after(_worlds_at_first(ports, marks, one, other), story)


def worlds_after(worlds, story):
    """The worlds of both houses behind a story of both; BadStory for no story."""
    if not is_tuple(story, 0, MOST_STEPS):
        raise BadStory(None)
    for index, pair in enumerate(story):
        if not is_tuple(pair, 2, 2) or not is_within(pair[0], 0, 1) or not can_do(worlds, pair[0], pair[1]):
            raise BadStory(index)
        worlds = with_step(worlds, pair[0], pair[1])
    return worlds


def can_do(worlds, side, step):
    """Whether a value is a step that the house of a side can do now, beside the other one."""
    world = worlds[side]
    if not world.can_do(step):
        return False
    if step[0] != "ask":
        return True
    _, word = world.machine[state_behind(world.machine, world.standing[1])][step[1]]
    return word.startswith("out") or "out" + word[2:] in words_sent(worlds[1 - side])


def words_sent(world):
    """The unlike words by which a house was heard to send letters, ascending."""
    return sorted(set([word for _, word in world.sayings if word.startswith("out")]))


def with_step(worlds, side, step):
    """The worlds of both houses behind one more step of the house of a side; those ahead of it stay as they are."""
    behind = worlds[side].behind(step)
    return (behind, worlds[1]) if side == 0 else (worlds[0], behind)


def coins_standing(ports, worlds):
    """The sum of the most coins with which each house can stand."""
    return sum([most_standing(ports, side, world) for side, world in enumerate(worlds)])


def most_standing(ports, side, world):
    """The most coins with which a house can stand: behind lives of the notes that fit the wheel."""
    lives = [decided_part(world, note) for note in world.notes if world.fits(note)]
    return max([stand_along(ports, side, life)[0] for life in lives])


def decided_part(world, note):
    """The life of a note, without its last option if not all marks of this one are done."""
    _, _, life, done = note
    if not life:
        return life
    row = world.table[state_behind(world.machine, life[:-1])][life[-1]]
    return life if done == len(row) else life[:-1]


def greatest_coins(ports, worlds, most):
    """What most_coins returns, nothing being checked: searched pair by pair, each pair of worlds but once."""
    found = coins_standing(ports, worlds)
    known = {key_of(worlds): True}
    newest = [worlds]
    for _ in range(most):
        later = []
        for both in newest:
            for following in worlds_beside(both):
                key = key_of(following)
                if key not in known:
                    known[key] = True
                    later.append(following)
        newest = later
        found = max([found] + [coins_standing(ports, both) for both in newest])
    return found


def worlds_beside(worlds):
    """The worlds of both houses behind each step that one of them can do now."""
    return [with_step(worlds, side, step)
            for side in (0, 1) for step in worlds[side].open_steps() if can_do(worlds, side, step)]


def key_of(worlds):
    """All by which the worlds of both houses are unlike in what can come of them."""
    return tuple([(world.reading, tuple(sorted(world.notes)), world.standing, tuple(words_sent(world)))
                  for world in worlds])
