"""A machine that is led by the marks of a wheel that may slip (points 15 and 16)."""

from onelife.checks import check_setting, is_number, is_tuple, is_within
from onelife.errors import NotApart, TooMany
from onelife.rows import begins, first_clash, gaps
from onelife.stories import behind_story
from onelife.walks import coming_states, state_behind

LED_BIRTH = (0, None, (), ())
MOST_OPTIONS = 6


class Led:
    """The wheel, the shelf, the led machine and what was heard, behind some steps of a led story.

    standing: ("off",), ("mute",), ("end",) at a state without options, or ("way", life, begun).
    """

    def __init__(self, machine, marks, table):
        self.machine = machine
        self.marks = marks
        self.table = table
        self.reading = (0, None)
        self.notes = {LED_BIRTH: True}
        self.standing = ("off",)
        self.sayings = []

    def can_do(self, step):
        """Whether a value is a step that can be done now."""
        if step == ("cut",):
            return self.standing[0] != "off"
        if not is_tuple(step, 2, 2):
            return False
        word, what = step
        if word == "boot":
            return self.standing[0] == "off" and is_led_note(what) and what in self.notes
        return word == "go" and self.standing[0] == "way" and is_within(what, 0, self.marks - 1)

    def do_step(self, step):
        """Do a step that can be done."""
        if step[0] == "cut":
            self.standing = ("off",)
        elif step[0] == "go":
            _, life, begun = self.standing
            self.reading = (self.reading[0] + 1, step[1])
            self._stand_with(life, begun + (step[1],))
        elif step[1][:2] == self.reading:
            self._stand_with(step[1][2], step[1][3])
        else:
            self.standing = ("mute",)

    def is_lost(self):
        """Whether each note on the shelf that fits the wheel would make the machine mute."""
        fitting = [note for note in self.notes if note[:2] == self.reading]
        return all([self._standing_with(life, begun)[0] == "mute" for _, _, life, begun in fitting])

    def _stand_with(self, life, begun):
        word = self._word_decided(life, begun)
        if word is not None:
            self.sayings.append((self.reading[0], word))
        self.standing = self._standing_with(life, begun)
        if self.standing[0] == "way":
            _, longer, left = self.standing
            for mark in range(self.marks):
                self.notes[(self.reading[0] + 1, mark, longer, left + (mark,))] = True

    def _word_decided(self, life, begun):
        state = state_behind(self.machine, life)
        option = decided(self.table[state], begun)
        return None if option is None else self.machine[state][option][1]

    def _standing_with(self, life, begun):
        option = decided(self.table[state_behind(self.machine, life)], begun)
        if option is not None:
            life, begun = life + (option,), ()
        rows = self.table[state_behind(self.machine, life)]
        if not rows:
            return ("end",)
        return ("way", life, begun) if any([begins(begun, row) for row in rows]) else ("mute",)


def decided(rows, begun):
    """The first option of which these marks are the row, None without one."""
    return rows.index(begun) if begun in rows else None


def is_led_note(value):
    """Whether a value has the form of a note of a led machine, so that it may be looked for on a shelf."""
    if not is_tuple(value, 4, 4):
        return False
    count, mark, life, begun = value
    # The kinds are asked one by one, because to Python False equals 0 and True equals 1.
    if not is_number(count) or not (mark is None or is_number(mark)):
        return False
    return all([isinstance(part, tuple) and all([is_number(number) for number in part]) for part in (life, begun)])


def _led_behind(machine, marks, table, story):
    check_setting(machine, marks, table)
    return behind_story(Led(machine, marks, table), story)


def led_heard(machine, marks, table, story):
    """The pairs (number, word) that were said in a led story, in order, as often as they were."""
    return tuple(_led_behind(machine, marks, table, story).sayings)


def led_is_dead(machine, marks, table, story):
    """Whether behind a led story each note that fits the wheel would make the machine mute."""
    return _led_behind(machine, marks, table, story).is_lost()


def _check_led(machine, marks, table):
    check_setting(machine, marks, table)
    for state in coming_states(machine):
        if first_clash(table[state]) is not None:
            raise NotApart(state)


def never_dies(machine, marks, table):
    """Whether behind no led story the machine is dead."""
    _check_led(machine, marks, table)
    return not any([gaps(marks, table[state]) for state in coming_states(machine)])


def death_of(machine, marks, table):
    """The least marks of a shortest led story behind which the machine is dead, None without one."""
    _check_led(machine, marks, table)
    ways = {(0, ()): ()}
    places = [(0, ())]
    while places:
        later = []
        # The places stand in the order of the least marks to them, so that the first death found is the least one.
        for place in places:
            for mark in range(marks if machine[place[0]] else 0):
                following = place_behind(machine, table, place, mark)
                if following is None:
                    return ways[place] + (mark,)
                if following not in ways:
                    ways[following] = ways[place] + (mark,)
                    later.append(following)
        places = later
    return None


def place_behind(machine, table, place, mark):
    """Where the led machine is a mark further, as (state, begun), None if it is mute."""
    state, begun = place
    longer = begun + (mark,)
    option = decided(table[state], longer)
    if option is not None:
        return machine[state][option][0], ()
    return (state, longer) if any([begins(longer, row) for row in table[state]]) else None


def filled(machine, marks, table):
    """The machine and the table with the fewest silent options more by which the rows of coming states are full."""
    _check_led(machine, marks, table)
    more = {state: gaps(marks, table[state]) for state in coming_states(machine)}
    if any([len(machine[state]) + len(rows) > MOST_OPTIONS for state, rows in more.items()]):
        raise TooMany(MOST_OPTIONS)
    states = [options + ((state, None),) * len(more.get(state, [])) for state, options in enumerate(machine)]
    lanes = [rows + tuple(more.get(state, [])) for state, rows in enumerate(table)]
    return tuple(states), tuple(lanes)
