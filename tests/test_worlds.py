"""The wheel, the shelf and stories (points 5 and 6), and that the machine never dies (point 10)."""

import random
import unittest

from onelife.errors import BadMachine, BadMarks, BadStory, BadTable
from onelife.pairs import is_safe
from onelife.worlds import heard, is_dead, shelf_after, spoken, stands, two_lives, wheel_after
from tests.oracles import Story
from tests.tools import BIRTH, COIN, COIN_TABLE, GAME, GAME_TABLE, SAME_TABLE, Case, settings

ALL = (wheel_after, shelf_after, heard, spoken, stands, is_dead, two_lives)
BOOT = ("boot", BIRTH)


def random_story(dice, machine, table, length):
    story, world = [], Story(machine, table, ())
    for _ in range(length):
        steps = world.steps()
        # Cuts are made rarer, so that stories come to something.
        steps = [step for step in steps if step != ("cut",) or dice.random() < 0.4] or steps
        story.append(dice.choice(steps))
        world.do(story[-1])
    return tuple(story)


def every_story(machine, table, most):
    """All stories of at most so many steps."""
    found = [()]
    for story in found:
        if len(story) < most:
            found.extend([story + (step,) for step in Story(machine, table, story).steps()])
    return found


class WorldsTest(Case):
    def test_first_moment(self):
        self.same([told(COIN, 2, COIN_TABLE, ()) for told in ALL],
                  [(0, None), (BIRTH,), (), (), ("off",), False, None])

    def test_a_row_of_several_marks(self):
        story = (BOOT, ("ask", 0), ("turn",), ("turn",), ("cut",), ("boot", (2, 1, (0,), 2)), ("ask", 2))
        self.same(stands(GAME, 2, GAME_TABLE, story[:1]), ("choice", ()))
        self.same(stands(GAME, 2, GAME_TABLE, story[:2]), ("sealed", (1, 0, (0,), 1)))
        self.same(wheel_after(GAME, 2, GAME_TABLE, story[:2]), (0, None))
        self.same(stands(GAME, 2, GAME_TABLE, story[:3]), ("sealed", (2, 1, (0,), 2)))
        self.same(wheel_after(GAME, 2, GAME_TABLE, story[:3]), (1, 0))
        self.same(heard(GAME, 2, GAME_TABLE, story[:3]), ())
        self.same(stands(GAME, 2, GAME_TABLE, story[:4]), ("choice", (0,)))
        self.same(heard(GAME, 2, GAME_TABLE, story[:4]), ((2, "on"),))
        self.same(stands(GAME, 2, GAME_TABLE, story[:5]), ("off",))
        self.same(heard(GAME, 2, GAME_TABLE, story), ((2, "on"), (2, "on")))
        self.same(spoken(GAME, 2, GAME_TABLE, story), ((0,),))
        self.same(shelf_after(GAME, 2, GAME_TABLE, story),
                  (BIRTH, (1, 0, (0,), 1), (2, 1, (0,), 2), (3, 0, (0, 2), 1)))

    def test_elder_note_makes_mute(self):
        story = (BOOT, ("ask", 1), ("turn",), ("cut",), BOOT)
        self.same(stands(COIN, 2, COIN_TABLE, story), ("mute",))
        for step in (("turn",), ("ask", 0), BOOT, ("boot", (1, 1, (1,), 1))):
            self.fails(BadStory, stands, COIN, 2, COIN_TABLE, story + (step,), index=5)
        self.same(stands(COIN, 2, COIN_TABLE, story + (("cut",),)), ("off",))

    def test_note_of_another_mark_or_count_makes_mute(self):
        story = (BOOT, ("ask", 0), ("cut",), BOOT, ("ask", 1), ("turn",), ("cut",), ("boot", (1, 0, (0,), 1)))
        self.same(stands(COIN, 2, COIN_TABLE, story), ("mute",))
        ahead = (BOOT, ("ask", 0), ("cut",), ("boot", (1, 0, (0,), 1)))
        self.same(stands(COIN, 2, COIN_TABLE, ahead), ("mute",))

    def test_boot_within_a_row_seals_again(self):
        table = (((0, 1), (1,)),)
        story = (BOOT, ("ask", 0), ("turn",), ("cut",), ("boot", (1, 0, (0,), 1)))
        self.same(stands(COIN, 2, table, story), ("sealed", (2, 1, (0,), 2)))
        self.same(len(shelf_after(COIN, 2, table, story)), 3)
        self.same(heard(COIN, 2, table, story + (("turn",),)), ((2, "yes"),))

    def test_one_wheel_two_lives(self):
        story = (BOOT, ("ask", 0), ("cut",), BOOT, ("ask", 1), ("turn",), ("cut",), ("boot", (1, 0, (0,), 1)))
        self.same(heard(COIN, 1, SAME_TABLE, story), ((1, "no"), (1, "yes")))
        self.same(spoken(COIN, 1, SAME_TABLE, story), ((1,), (0,)))
        self.same(two_lives(COIN, 1, SAME_TABLE, story), ((1,), (0,)))
        self.same(two_lives(COIN, 1, SAME_TABLE, story[:7]), None)

    def test_which_two_lives(self):
        machine = (((0, "a"), (0, "a"), (0, "b"), (0, "c")),)
        table = (((0,),) * 4,)
        story = ()
        for option in (0, 1, 3, 2):
            story += (BOOT, ("ask", option), ("cut",))
        story = story[:-1] + (("turn",), ("cut",))
        for option in (1, 0, 3):
            story += (("boot", (1, 0, (option,), 1)), ("cut",))
        self.same(spoken(machine, 1, table, story), ((2,), (1,), (0,), (3,)))
        self.same(two_lives(machine, 1, table, story), ((2,), (1,)))
        alike = story[:-6] + (("boot", (1, 0, (2,), 1)),)
        self.same(two_lives(machine, 1, table, alike), None)
        # The first later life tells as the first one did; the second one does not, and its first other is the first.
        second = (("boot", (1, 0, (0,), 1)), ("cut",), ("boot", (1, 0, (1,), 1)), ("cut",), ("boot", (1, 0, (2,), 1)))
        story = ()
        for option in (2, 3, 1, 0):
            story += (BOOT, ("ask", option), ("cut",))
        story = story[:-1] + (("turn",), ("cut",)) + second
        self.same(spoken(machine, 1, table, story), ((0,), (1,), (2,)))
        self.same(two_lives(machine, 1, table, story), ((0,), (2,)))

    def test_silent_option_is_decided_but_does_not_speak(self):
        story = (BOOT, ("ask", 2), ("turn",), ("turn",))
        self.same(stands(GAME, 2, GAME_TABLE, story), ("choice", (2,)))
        self.same(spoken(GAME, 2, GAME_TABLE, story), ())
        self.same(heard(GAME, 2, GAME_TABLE, story), ())

    def test_state_without_options(self):
        story = (BOOT, ("ask", 1), ("turn",), ("ask", 0))
        self.same(stands(GAME, 2, GAME_TABLE, story[:3]), ("choice", (1,)))
        self.fails(BadStory, stands, GAME, 2, GAME_TABLE, story, index=3)
        self.fails(BadStory, stands, ((),), 1, ((),), (BOOT, ("ask", 0)), index=1)

    def test_story_of_two_hundred_steps(self):
        story = (BOOT,) + (("ask", 0), ("turn",)) * 99 + (("cut",),)
        self.assertEqual(len(story), 200)
        # A life of a story may have more than forty options.
        self.same(spoken(COIN, 2, COIN_TABLE, story)[-1], (0,) * 99)
        self.same(wheel_after(COIN, 2, COIN_TABLE, story), (99, 0))
        self.same(len(shelf_after(COIN, 2, COIN_TABLE, story)), 100)
        for told in ALL:
            self.fails(BadStory, told, COIN, 2, COIN_TABLE, story + (BOOT,), index=None)
            self.fails(BadStory, told, COIN, 2, COIN_TABLE, (None,) * 201, index=None)

    def test_no_story(self):
        for story in (None, [], [BOOT], "", {}, 0, True, "boot"):
            for told in ALL:
                self.fails(BadStory, told, COIN, 2, COIN_TABLE, story, index=None)

    def test_no_step(self):
        wrong = [None, (), [], {}, "", "cut", 0, True, ("boot",), ("boot", None), ("boot", BIRTH, 0), ["boot", BIRTH],
                 ("boot", list(BIRTH)), ("boot", (0, None, [], 0)), ("boot", (0, None, (), 0, 0)), ("boot", (0, None, ())),
                 ("boot", (False, None, (), 0)), ("boot", (0, None, (), False)), ("boot", (0, 0, (), 0)),
                 ("boot", (1, 0, (0,), 1)), ("ask", 0), ("turn",), ("cut",), ("seal",), ("go", 0), (["boot"], BIRTH),
                 ("boot", {}), ("boot", ({}, [], (), 0)), ("boot", (0, None, ({},), 0)), (None, BIRTH), ("Boot", BIRTH),
                 ("boot", (0, None, (([],),), 0)), (("boot", BIRTH),)]
        for step in wrong:
            self.fails(BadStory, stands, COIN, 2, COIN_TABLE, (step,), index=0)
            self.fails(BadStory, heard, COIN, 2, COIN_TABLE, (BOOT, ("cut",), step, step), index=2)

    def test_no_step_behind_a_boot_and_behind_an_ask(self):
        for step in (BOOT, ("turn",), ("ask", 2), ("ask", -1), ("ask", True), ("ask", False), ("ask", None), ("ask", "0"),
                     ("ask", (0,)), ("ask", []), ("ask",), ("ask", 0, 0), ("cut", 0), ("ask", 10 ** 30)):
            self.fails(BadStory, stands, COIN, 2, COIN_TABLE, (BOOT, step), index=1)
        for step in (BOOT, ("ask", 0), ("turn", 0), ("turn", None), ["turn"], "turn", None):
            self.fails(BadStory, stands, COIN, 2, COIN_TABLE, (BOOT, ("ask", 0), step), index=2)

    def test_truth_values_in_notes(self):
        story = (BOOT, ("ask", 1), ("turn",), ("cut",))
        for note in ((True, 1, (1,), 1), (1, True, (1,), 1), (1, 1, (True,), 1), (1, 1, (1,), True)):
            self.fails(BadStory, stands, COIN, 2, COIN_TABLE, story + (("boot", note),), index=4)
        self.same(stands(COIN, 2, COIN_TABLE, story + (("boot", (1, 1, (1,), 1)),)), ("choice", (1,)))

    def test_against_the_oracle(self):
        dice = random.Random(19)
        for machine, marks, table in settings(23, 150):
            story = random_story(dice, machine, table, dice.randint(0, 25))
            world = Story(machine, table, story)
            self.assertIsNone(world.bad)
            self.same([told(machine, marks, table, story) for told in ALL],
                      [(world.count, world.mark), tuple(world.shelf), tuple(world.heard), tuple(world.spoken),
                       world.stands(), False, world.two_lives()])

    def test_wrong_steps_against_the_oracle(self):
        dice = random.Random(29)
        for machine, marks, table in settings(31, 100):
            story = random_story(dice, machine, table, 20)
            shelf = shelf_after(machine, marks, table, story)
            steps = [("boot", note) for note in shelf] + [("turn",), ("cut",), ("ask", 0), ("ask", 1), ("ask", 2)]
            at = dice.randrange(20)
            story = story[:at] + (dice.choice(steps),) + story[at:]
            bad = Story(machine, table, story).bad
            if bad is None:
                self.assertEqual(heard(machine, marks, table, story), tuple(Story(machine, table, story).heard))
            else:
                self.fails(BadStory, heard, machine, marks, table, story, index=bad)

    def test_never_dead_and_one_life_if_safe(self):
        checked = 0
        for machine, marks, table in settings(37, 60, states=2, options=2):
            safe = is_safe(machine, marks, table)
            for story in every_story(machine, table, 6):
                self.same(is_dead(machine, marks, table, story), False)
                if safe:
                    self.same(two_lives(machine, marks, table, story), None)
                    checked += 1
        self.assertGreater(checked, 1000)

    def test_errors_from_left_to_right(self):
        for told in ALL:
            self.fails(BadMachine, told, None, None, None, None, index=None)
            self.fails(BadMarks, told, COIN, None, None, None)
            self.fails(BadTable, told, COIN, 2, None, None, index=None)


if __name__ == "__main__":
    unittest.main()
