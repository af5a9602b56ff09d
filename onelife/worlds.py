"""The world: the wheel, the shelf, the machine and its enemy's stories (points 5 and 6)."""

from onelife.checks import check_setting, is_number, is_tuple, is_within
from onelife.errors import BadStory
from onelife.rows import are_along
from onelife.walks import state_behind, told_along

BIRTH = (0, None, (), 0)
MOST_STEPS = 200


class World:
    """The wheel, the shelf, the machine and what was heard, behind some steps of a story."""

    def __init__(self, machine, table):
        self.machine = machine
        self.table = table
        self.wheel = (0, None)
        self.shelf = {BIRTH: True}
        self.stand = ("off",)
        self.told = []
        self.speakers = {}

    def can_do(self, step):
        """Whether a value is a step that can be done now."""
        if not is_tuple(step, 1, 2):
            return False
        if step == ("turn",):
            return self.stand[0] == "sealed"
        if step == ("cut",):
            return self.stand[0] != "off"
        if len(step) == 1:
            return False
        word, what = step
        if word == "boot":
            return self.stand[0] == "off" and is_note(what) and what in self.shelf
        return word == "ask" and self.stand[0] == "choice" and self._is_open(what)

    def do_step(self, step):
        """Do a step that can be done."""
        if step[0] == "boot":
            self._boot(step[1])
        elif step[0] == "ask":
            self._stand_with(self.stand[1] + (step[1],), 0)
        elif step[0] == "turn":
            count, mark, life, done = self.stand[1]
            self.wheel = (count, mark)
            self._stand_with(life, done)
        else:
            self.stand = ("off",)

    def _is_open(self, option):
        return is_within(option, 0, len(self.machine[state_behind(self.machine, self.stand[1])]) - 1)

    def _boot(self, note):
        if note[:2] == self.wheel:
            self._stand_with(note[2], note[3])
        else:
            self.stand = ("mute",)

    def _stand_with(self, life, done):
        if not life:
            self.stand = ("choice", life)
            return
        state = state_behind(self.machine, life[:-1])
        row = self.table[state][life[-1]]
        if done == len(row):
            self._decide(life, self.machine[state][life[-1]][1])
        else:
            self._seal((self.wheel[0] + 1, row[done], life, done + 1))

    def _decide(self, life, word):
        if word is not None:
            self.told.append((self.wheel[0], word))
            self.speakers[life] = True
        self.stand = ("choice", life)

    def _seal(self, note):
        self.shelf[note] = True
        self.stand = ("sealed", note)


def is_note(value):
    """Whether a value has the form of a note, so that it may be looked for on a shelf."""
    if not is_tuple(value, 4, 4):
        return False
    count, mark, life, done = value
    # The kinds are asked one by one, because to Python False equals 0 and True equals 1.
    if not is_number(count) or not (mark is None or is_number(mark)) or not is_number(done):
        return False
    return isinstance(life, tuple) and all(is_number(option) for option in life)


def lived(machine, table, story):
    """The world behind a story of a machine with its table, which are not checked; BadStory for no story."""
    if not is_tuple(story, 0, MOST_STEPS):
        raise BadStory(None)
    world = World(machine, table)
    for index, step in enumerate(story):
        if not world.can_do(step):
            raise BadStory(index)
        world.do_step(step)
    return world


def _world_behind(machine, marks, table, story):
    check_setting(machine, marks, table)
    return lived(machine, table, story)


def wheel_after(machine, marks, table, story):
    """What the wheel reads behind a story."""
    return _world_behind(machine, marks, table, story).wheel


def shelf_after(machine, marks, table, story):
    """The notes on the shelf behind a story, in the order in which they were first sealed."""
    return tuple(_world_behind(machine, marks, table, story).shelf)


def heard(machine, marks, table, story):
    """The pairs (number, word) that were said in a story, in order, as often as they were."""
    return tuple(_world_behind(machine, marks, table, story).told)


def spoken(machine, marks, table, story):
    """The lives that have spoken in a story, in the order in which each first did."""
    return tuple(_world_behind(machine, marks, table, story).speakers)


def stands(machine, marks, table, story):
    """How the machine stands behind a story."""
    return _world_behind(machine, marks, table, story).stand


def is_dead(machine, marks, table, story):
    """Whether no note on the shelf has the count and mark that the wheel reads."""
    world = _world_behind(machine, marks, table, story)
    return not any([note[:2] == world.wheel for note in world.shelf])


def two_lives(machine, marks, table, story):
    """The first two lives that have spoken of which neither's telling begins the other's, None without any."""
    speakers = list(_world_behind(machine, marks, table, story).speakers)
    tellings = [told_along(machine, table, life) for life in speakers]
    for later, told in enumerate(tellings):
        for earlier in range(later):
            if not are_along(tellings[earlier], told):
                return speakers[earlier], speakers[later]
    return None
