"""A machine in its enemy's hands, step by step (point 19)."""

from onelife.checks import check_manner, check_setting
from onelife.errors import BadStep
from onelife.harms import harm_in
from onelife.stories import World


class Bench:
    """A machine with its wheel and its shelf, with which any steps can be done in a manner."""

    def __init__(self, machine, marks, table, manner="sealed"):
        check_setting(machine, marks, table)
        check_manner(manner)
        self._world = World(machine, table, manner)
        self._steps = []

    def boot(self, note):
        """Switch the machine on with a note of the shelf."""
        return self._done(("boot", note))

    def ask(self, option):
        """Ask the machine for an option of its state."""
        return self._done(("ask", option))

    def turn(self):
        """Let the wheel go on by a tooth."""
        return self._done(("turn",))

    def cut(self):
        """Cut the machine's power."""
        return self._done(("cut",))

    def seal(self):
        """Seal the note behind a turn, in the manner "late"."""
        return self._done(("seal",))

    def harm(self):
        """The harm that is done, "two lives" ahead of "dead", None without one."""
        return harm_in(self._world)

    def fitting(self):
        """The notes on the shelf with which the machine would stand."""
        return tuple([note for note in self._world.notes if self._world.fits(note)])

    @property
    def wheel(self):
        """What the wheel reads."""
        return self._world.reading

    @property
    def shelf(self):
        """The notes in the order in which they were first sealed."""
        return tuple(self._world.notes)

    @property
    def stand(self):
        """How the machine stands."""
        return self._world.standing

    @property
    def told(self):
        """The pairs (number, word) that were heard so far."""
        return tuple(self._world.sayings)

    @property
    def story(self):
        """The steps that were done so far."""
        return tuple(self._steps)

    def _done(self, step):
        if not self._world.can_do(step):
            raise BadStep("a step that cannot be done here")
        before = len(self._world.sayings)
        self._world.do_step(step)
        self._steps.append(step)
        return tuple(self._world.sayings[before:])
