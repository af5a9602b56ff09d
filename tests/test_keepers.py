"""What can be thrown away behind a story (point 26)."""

import random
import unittest

from onelife.errors import BadMachine, BadMarks, BadStory, BadTable
from onelife.keepers import idle_parts, lasting_notes, new_words, unspoken, without_idle
from onelife.worlds import shelf_after, spoken, stands, wheel_after
from tests.manners import House, random_story
from tests.oracles import Story
from tests.tools import BIRTH, COIN, COIN_TABLE, GAME, GAME_TABLE, SAME_TABLE, Case, settings

ALL = (lasting_notes, idle_parts, without_idle, new_words, unspoken)
BOOT = ("boot", BIRTH)
CUT = ("cut",)
TURN = ("turn",)
YES = (1, 0, (0,), 1)


def stretches(story):
    """The index of the first and of the last step of each stretch."""
    firsts = [at for at, step in enumerate(story) if step[0] == "boot"]
    return [(first, later - 1) for first, later in zip(firsts, firsts[1:] + [len(story)])]


def kept(machine, table, story):
    world = Story(machine, table, story)
    return world.count, world.mark, world.shelf, world.spoken


def restless_story(dice, machine, table, length):
    """A story with many boots, some with notes that don't fit."""
    story, house = [], House(machine, table, "sealed")
    for _ in range(length):
        steps = house.steps()
        story.append(("cut",) if ("cut",) in steps and dice.random() < 0.4 else dice.choice(steps))
        house.do(story[-1])
    return tuple(story)


class KnownTest(Case):
    def test_known(self):
        story = (BOOT, CUT, BOOT, ("ask", 0), CUT, BOOT, ("ask", 1), TURN, CUT, BOOT, CUT)
        self.same(lasting_notes(COIN, 2, COIN_TABLE, story), ((1, 1, (1,), 1),))
        self.same(idle_parts(COIN, 2, COIN_TABLE, story), ((0, 1), (9, 10)))
        self.same(without_idle(COIN, 2, COIN_TABLE, story), story[2:9])
        self.same([new_words(COIN, 2, COIN_TABLE, story), unspoken(COIN, 2, COIN_TABLE, story)], [((1, "no"),), ()])
        self.same(unspoken(COIN, 2, COIN_TABLE, story[:5]), ((),))

    def test_a_story_without_steps(self):
        self.same([keep(COIN, 2, COIN_TABLE, ()) for keep in ALL], [(BIRTH,), (), (), (), ((),)])

    def test_200_steps_and_201(self):
        story = (BOOT, CUT) * 100
        self.same(idle_parts(COIN, 2, COIN_TABLE, story), tuple([(at, at + 1) for at in range(0, 200, 2)]))
        self.same(without_idle(COIN, 2, COIN_TABLE, story), ())
        busy = (BOOT,) + (("ask", 0), TURN) * 99 + (CUT,)
        self.same([idle_parts(COIN, 2, COIN_TABLE, busy), without_idle(COIN, 2, COIN_TABLE, busy)], [(), busy])
        self.same(new_words(COIN, 2, COIN_TABLE, busy), tuple([(number, "yes") for number in range(1, 100)]))
        for keep in ALL:
            self.fails(BadStory, keep, COIN, 2, COIN_TABLE, story + (BOOT,), index=None)

    def test_stretches_without_a_cut_are_not_idle(self):
        for story, idle in (((BOOT,), ()), ((BOOT, CUT, BOOT), ((0, 1),)), ((BOOT, CUT, BOOT, ("ask", 0)), ((0, 1),))):
            self.same(idle_parts(COIN, 2, COIN_TABLE, story), idle)
            self.same(without_idle(COIN, 2, COIN_TABLE, story), story[2 * len(idle):])

    def test_stretches_that_seal_turn_or_speak_anew(self):
        # What is sealed again is on the shelf already.
        again = (BOOT, ("ask", 0), CUT, BOOT, ("ask", 0), CUT)
        self.same(idle_parts(COIN, 2, COIN_TABLE, again), ((3, 5),))
        # To come to a word again is idle; a life that speaks first by a boot is not.
        both = (BOOT, ("ask", 0), CUT, BOOT, ("ask", 1), TURN, CUT)
        speak = both + (("boot", YES), CUT, ("boot", YES), CUT)
        self.same(idle_parts(COIN, 1, SAME_TABLE, speak), ((9, 10),))
        self.same(without_idle(COIN, 1, SAME_TABLE, speak), speak[:9])
        # A mute machine does nothing.
        self.same(idle_parts(COIN, 2, COIN_TABLE, both + (("boot", YES), CUT, BOOT, CUT)), ((7, 8), (9, 10)))
        # A silent life that is decided again is idle; a turn never is.
        silent = (BOOT, ("ask", 2), TURN, TURN, CUT, ("boot", (2, 0, (2,), 2)), CUT)
        self.same(idle_parts(GAME, 2, GAME_TABLE, silent), ((5, 6),))

    def test_notes_that_still_fit_and_ones_that_cannot(self):
        # The notes of both options are ahead of the wheel, until it goes on by the mark of one.
        story = (BOOT, ("ask", 0), CUT, BOOT, ("ask", 1))
        self.same(lasting_notes(COIN, 2, COIN_TABLE, story), (BIRTH, YES, (1, 1, (1,), 1)))
        self.same(lasting_notes(COIN, 2, COIN_TABLE, story + (TURN,)), ((1, 1, (1,), 1),))
        self.same(lasting_notes(COIN, 1, SAME_TABLE, story + (TURN,)), (YES, (1, 0, (1,), 1)))
        further = story + (TURN, ("ask", 1))
        self.same(lasting_notes(COIN, 2, COIN_TABLE, further), ((1, 1, (1,), 1), (2, 1, (1, 1), 1)))
        # One that is ahead of the wheel lasts, though its mark may never be shown at its count.
        self.same(lasting_notes(GAME, 2, GAME_TABLE, (BOOT, ("ask", 0), TURN)), ((1, 0, (0,), 1), (2, 1, (0,), 2)))

    def test_words_heard_again(self):
        story = (BOOT, ("ask", 0), TURN, CUT, ("boot", YES), CUT, ("boot", YES), ("ask", 1), TURN, CUT, ("boot", (2, 1, (0, 1), 1)))
        self.same(new_words(COIN, 2, COIN_TABLE, story), ((1, "yes"), (2, "no")))
        twice = (BOOT, ("ask", 0), CUT, BOOT, ("ask", 1), TURN, CUT, ("boot", YES), CUT, ("boot", (1, 0, (1,), 1)))
        self.same(new_words(COIN, 1, SAME_TABLE, twice), ((1, "no"), (1, "yes")))

    def test_lives_that_have_not_spoken(self):
        twice = (BOOT, ("ask", 0), CUT, BOOT, ("ask", 1), TURN)
        self.same(unspoken(COIN, 1, SAME_TABLE, twice), ((0,),))
        self.same(unspoken(COIN, 1, SAME_TABLE, twice + (CUT, ("boot", YES))), ())
        self.same(unspoken(COIN, 1, SAME_TABLE, (BOOT,)), ((),))
        # A life on its way has not spoken yet, and a silent one never does.
        self.same(unspoken(GAME, 2, GAME_TABLE, (BOOT, ("ask", 0), TURN)), ((0,),))
        self.same(unspoken(GAME, 2, GAME_TABLE, (BOOT, ("ask", 0), CUT, BOOT, ("ask", 2), TURN)), ((0,), (2,)))
        self.same(unspoken(GAME, 2, GAME_TABLE, (BOOT, ("ask", 2), TURN, TURN)), ((2,),))
        self.same(unspoken(GAME, 2, GAME_TABLE, (BOOT, ("ask", 0), TURN, TURN)), ())


class AgainstWorldsTest(Case):
    def test_against_the_definitions(self):
        dice = random.Random(261)
        idle = 0
        for machine, marks, table in settings(262, 200, longest=2):
            story = restless_story(dice, machine, table, dice.randint(0, 40))
            world = Story(machine, table, story)
            fitting = [note for note in world.shelf if note[:2] == (world.count, world.mark)]
            self.same(lasting_notes(machine, marks, table, story),
                      tuple([note for note in world.shelf if note in fitting or note[0] > world.count]))
            self.same(new_words(machine, marks, table, story), tuple(dict.fromkeys(world.heard)))
            self.same(unspoken(machine, marks, table, story),
                      tuple([life for life in dict.fromkeys([note[2] for note in fitting]) if life not in world.spoken]))
            parts = [(first, last) for first, last in stretches(story) if story[last] == CUT
                     and kept(machine, table, story[:first]) == kept(machine, table, story[:last + 1])]
            self.same(idle_parts(machine, marks, table, story), tuple(parts))
            left = tuple([step for at, step in enumerate(story) if not any([first <= at <= last for first, last in parts])])
            self.same(without_idle(machine, marks, table, story), left)
            for told in (wheel_after, shelf_after, spoken, stands):
                self.same(told(machine, marks, table, left), told(machine, marks, table, story))
            idle += len(parts)
        self.assertGreater(idle, 200)

    def test_other_notes_never_fit_again(self):
        dice = random.Random(263)
        gone = 0
        for machine, marks, table in settings(264, 60):
            story = random_story(dice, machine, table, "sealed", 40)
            at = dice.randint(0, 40)
            lasting = lasting_notes(machine, marks, table, story[:at])
            lost = [note for note in shelf_after(machine, marks, table, story[:at]) if note not in lasting]
            for later in range(at, 41):
                reading = wheel_after(machine, marks, table, story[:later])
                self.assertFalse([note for note in lost if note[:2] == reading])
            gone += len(lost)
        self.assertGreater(gone, 200)


class ErrorsTest(Case):
    def test_steps_that_cannot_be_done(self):
        for keep in ALL:
            for story, index in (((TURN,), 0), ((BOOT, BOOT), 1), ((BOOT, CUT, CUT), 2), ((BOOT, ("ask", True)), 1), ((BOOT, CUT, None), 2),
                                 ((BOOT, CUT, ("boot", YES)), 2), (None, None), ([BOOT], None), ("", None)):
                self.fails(BadStory, keep, COIN, 2, COIN_TABLE, story, index=index)

    def test_errors_from_left_to_right(self):
        for keep in ALL:
            self.fails(BadMachine, keep, None, 0, None, None, index=None)
            self.fails(BadMarks, keep, COIN, 0, None, None)
            self.fails(BadTable, keep, COIN, 2, None, None, index=None)


if __name__ == "__main__":
    unittest.main()
