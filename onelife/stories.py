"""The world behind the steps of a story, in each of the manners (points 5 and 17)."""

from onelife.checks import is_number, is_tuple, is_within
from onelife.errors import BadStory
from onelife.rows import begins
from onelife.walks import state_behind, told_along

BIRTH = (0, None, (), 0)
MOST_STEPS = 200


class World:
    """The wheel, the shelf, the machine and what was heard, behind some steps in a manner.

    reading: what the wheel reads.
    notes: the notes on the shelf, as the keys of a dict.
    standing: how the machine stands.
    sayings: the pairs that were said, in order.
    speakers: the lives that have spoken, as the keys of a dict.
    """

    def __init__(self, machine, table, manner="sealed"):
        self.machine = machine
        self.table = table
        self.manner = manner
        self.reading = (0, None)
        self.notes = {BIRTH: True}
        self.standing = ("off",)
        self.sayings = []
        self.speakers = {}

    def can_do(self, step):
        """Whether a value is a step that can be done now."""
        if not is_tuple(step, 1, 2):
            return False
        if len(step) == 1:
            return self._can_do_plain(step)
        word, what = step
        if word == "boot":
            return self.standing[0] == "off" and is_note(what) and what in self.notes
        return word == "ask" and self.standing[0] == "choice" and is_within(what, 0, self._many_options() - 1)

    def _can_do_plain(self, step):
        if step == ("turn",):
            return self.standing[0] in ("sealed", "ready")
        if step == ("seal",):
            return self.standing[0] == "bare"
        return step == ("cut",) and self.standing[0] != "off"

    def open_steps(self):
        """All steps that can be done now."""
        how = self.standing[0]
        if how == "off":
            return [("boot", note) for note in self.notes]
        if how == "choice":
            return [("cut",)] + [("ask", option) for option in range(self._many_options())]
        if how == "mute":
            return [("cut",)]
        return [("cut",), ("seal",) if how == "bare" else ("turn",)]

    def do_step(self, step):
        """Do a step that can be done."""
        if step[0] == "boot":
            self._boot(step[1])
        elif step[0] == "ask":
            self._stand_with(self.standing[1] + (step[1],), 0)
        elif step[0] == "turn":
            self._turn()
        elif step[0] == "seal":
            self._seal_behind()
        else:
            self.standing = ("off",)

    def behind(self, step):
        """Another world, which is behind one more step that can be done."""
        world = World(self.machine, self.table, self.manner)
        world.reading = self.reading
        world.notes = {note: True for note in self.notes}
        world.standing = self.standing
        world.sayings = list(self.sayings)
        world.speakers = {life: True for life in self.speakers}
        world.do_step(step)
        return world

    def fits(self, note):
        """Whether the machine would stand if it were booted with a note of the shelf."""
        if self.manner == "open":
            return True
        if self.manner == "counted":
            return note[0] == self.reading[0]
        return note[:2] == self.reading

    def is_lost(self):
        """Whether the machine would stand with no note on the shelf."""
        return not any([self.fits(note) for note in self.notes])

    def is_torn(self):
        """Whether two lives that have spoken tell what neither's telling begins the other's."""
        tellings = [told_along(self.machine, self.table, life) for life in self.speakers]
        # If all of them begin the longest one, each two of them begin one another, and otherwise it is one of two.
        longest = max(tellings, key=len, default=())
        return not all([begins(told, longest) for told in tellings])

    def _many_options(self):
        return len(self.machine[state_behind(self.machine, self.standing[1])])

    def _boot(self, note):
        if self.fits(note):
            self._stand_with(note[2], note[3])
        else:
            self.standing = ("mute",)

    def _turn(self):
        if self.manner == "late":
            _, life, done = self.standing
            row, _ = self._way_of(life)
            self.reading = (self.reading[0] + 1, row[done])
            self.standing = ("bare", life, done + 1)
        else:
            count, mark, life, done = self.standing[1]
            self.reading = (count, mark)
            self._stand_with(life, done)

    def _seal_behind(self):
        _, life, done = self.standing
        self.notes[self.reading + (life, done)] = True
        self._stand_with(life, done)

    def _stand_with(self, life, done):
        if not life:
            self.standing = ("choice", life)
            return
        row, word = self._way_of(life)
        if done == len(row):
            self.standing = ("choice", life)
            if self.manner != "early":
                self._say(self.reading[0], word, life)
        elif self.manner == "late":
            self.standing = ("ready", life, done)
        else:
            self._seal((self.reading[0] + 1, row[done], life, done + 1))
            if self.manner == "early" and done + 1 == len(row):
                self._say(self.reading[0] + 1, word, life)

    def _way_of(self, life):
        """The row and the word of a life's last option."""
        state = state_behind(self.machine, life[:-1])
        return self.table[state][life[-1]], self.machine[state][life[-1]][1]

    def _say(self, number, word, life):
        if word is not None:
            self.sayings.append((number, word))
            self.speakers[life] = True

    def _seal(self, note):
        self.notes[note] = True
        self.standing = ("sealed", note)


def is_note(value):
    """Whether a value has the form of a note, so that it may be looked for on a shelf."""
    if not is_tuple(value, 4, 4):
        return False
    count, mark, life, done = value
    # The kinds are asked one by one, because to Python False equals 0 and True equals 1.
    if not is_number(count) or not (mark is None or is_number(mark)) or not is_number(done):
        return False
    return isinstance(life, tuple) and all(is_number(option) for option in life)


def lived(machine, table, story, manner="sealed"):
    """The world behind a story of a machine with its table, which are not checked; BadStory for no story."""
    return behind_story(World(machine, table, manner), story)


def behind_story(world, story):
    """A world of any kind once it has gone on by a story; BadStory for no story."""
    if not is_tuple(story, 0, MOST_STEPS):
        raise BadStory(None)
    for index, step in enumerate(story):
        if not world.can_do(step):
            raise BadStory(index)
        world.do_step(step)
    return world
