"""The story by which two lives are heard (points 9 and 10)."""

import random
import unittest

from onelife.errors import BadLife, BadMachine, BadMarks, BadTable, NotAlong, TooMany
from onelife.pairs import is_safe, parting
from onelife.tricks import shows_story, story_of
from onelife.worlds import heard, is_dead, spoken, two_lives
from tests.oracles import Story, along, do_part, lives_within
from tests.tools import BIRTH, COIN, COIN_TABLE, GAME, GAME_TABLE, NO_KIND, SAME_TABLE, Case, settings

BOOT = ("boot", BIRTH)


def speaking_parts(machine, life):
    """The first parts of a life whose last option says a word."""
    found, state = [], 0
    for many, option in enumerate(life, start=1):
        state, word = machine[state][option]
        if word is not None:
            found.append(life[:many])
    return found


class StoryTest(Case):
    def holds(self, machine, marks, table, one, other):
        story = story_of(machine, marks, table, one, other)
        self.assertLessEqual(len(story), 200)
        self.assertIsNone(Story(machine, table, story).bad)
        said = spoken(machine, marks, table, story)
        for part in speaking_parts(machine, one) + speaking_parts(machine, other):
            self.assertIn(part, said)
        self.same(shows_story(machine, marks, table, one, other, story), True)
        self.same(shows_story(machine, marks, table, other, one, story), True)
        self.same(is_dead(machine, marks, table, story), False)
        return story

    def test_two_lives_of_a_coin_with_one_mark(self):
        story = self.holds(COIN, 1, SAME_TABLE, (0,), (1,))
        self.assertIsNotNone(two_lives(COIN, 1, SAME_TABLE, story))
        self.holds(COIN, 1, SAME_TABLE, (0, 1, 1, 0), (1, 0))
        self.holds(COIN, 1, SAME_TABLE, (1,), (0, 1, 1, 0))

    def test_lives_without_options(self):
        self.same(spoken(COIN, 2, COIN_TABLE, self.holds(COIN, 2, COIN_TABLE, (), ())), ())
        self.holds(COIN, 2, COIN_TABLE, (), (0, 1))
        self.holds(COIN, 2, COIN_TABLE, (0, 1), ())
        self.holds(((),), 1, ((),), (), ())

    def test_one_life_twice(self):
        self.holds(COIN, 2, COIN_TABLE, (0, 1, 1), (0, 1, 1))
        self.holds(GAME, 2, GAME_TABLE, (0, 2, 0), (0, 2, 0, 1))

    def test_all_lives_that_go_along(self):
        for machine, marks, table in settings(67, 60, states=2, options=2):
            known = lives_within(machine, table, 4)[:20]
            for one, marks_one, _ in known:
                for other, marks_other, _ in known:
                    if along(marks_one, marks_other):
                        story = self.holds(machine, marks, table, one, other)
                        if do_part(machine, table, one, other):
                            self.assertIsNotNone(two_lives(machine, marks, table, story))
                    else:
                        self.fails(NotAlong, story_of, machine, marks, table, one, other)

    def test_two_lives_are_heard_exactly_if_two_part(self):
        dice = random.Random(71)
        for machine, marks, table in settings(73, 100, states=2, options=2):
            found = parting(machine, marks, table)
            if found is not None:
                story = self.holds(machine, marks, table, *found)
                self.assertIsNotNone(two_lives(machine, marks, table, story))
            else:
                self.same(is_safe(machine, marks, table), True)
                for _ in range(20):
                    world = Story(machine, table, ())
                    for _ in range(30):
                        world.do(dice.choice(world.steps()))
                    self.assertIsNone(world.two_lives())

    def test_twenty_marks_and_more(self):
        machine, table = (((0, "a"), (0, "b")),), (((0,), (0,)),)
        self.holds(machine, 1, table, (0,) * 20, (1,) * 20)
        self.holds(machine, 1, table, (0,) * 20, ())
        self.holds(machine, 1, table, (0, 1), (1,) * 20)
        for lives in (((0,) * 21, ()), ((), (1,) * 21), ((0,) * 21, (1,) * 21)):
            self.fails(TooMany, story_of, machine, 1, table, *lives, most=20)
        table = (((0,) * 8, (0,) * 4),)
        self.holds(machine, 1, table, (0, 0, 1), (1,) * 5)
        self.fails(TooMany, story_of, machine, 1, table, (0, 0, 0), (1,), most=20)

    def test_not_along_comes_ahead_of_too_many(self):
        self.fails(NotAlong, story_of, COIN, 2, COIN_TABLE, (0,) * 21, (1,))
        self.fails(NotAlong, story_of, COIN, 2, COIN_TABLE, (0, 1), (0, 0, 1))

    def test_errors_from_left_to_right(self):
        self.fails(BadMachine, story_of, None, None, None, None, None, index=None)
        self.fails(BadMarks, story_of, COIN, None, None, None, None)
        self.fails(BadTable, story_of, COIN, 2, None, None, None, index=None)
        self.fails(BadLife, story_of, COIN, 2, COIN_TABLE, (2,), (0,))
        self.fails(BadLife, story_of, COIN, 2, COIN_TABLE, (0,), (True,))
        self.fails(BadLife, story_of, COIN, 2, COIN_TABLE, (0,) * 41, (1,))
        self.fails(BadMachine, shows_story, None, None, None, None, None, None, index=None)
        self.fails(BadMarks, shows_story, COIN, None, None, None, None, None)
        self.fails(BadTable, shows_story, COIN, 2, None, None, None, None, index=None)
        self.fails(BadLife, shows_story, COIN, 2, COIN_TABLE, (2,), (0,), None)
        self.fails(BadLife, shows_story, COIN, 2, COIN_TABLE, (0,), [0], None)


class ShowsStoryTest(Case):
    def test_lives_that_do_not_go_along(self):
        story = (BOOT, ("ask", 0), ("turn",))
        self.same(shows_story(COIN, 2, COIN_TABLE, (0,), (1,), story), False)
        self.same(shows_story(COIN, 2, COIN_TABLE, (0,), (), story), True)
        silent = (((0, "a"), (0, None)),)
        self.same(shows_story(silent, 2, COIN_TABLE, (0,), (1,), story), True)
        self.same(shows_story(silent, 2, COIN_TABLE, (0, 1), (1, 1), story), True)
        self.same(shows_story(silent, 2, COIN_TABLE, (1, 0), (0,), story), False)
        self.same(shows_story(silent, 2, COIN_TABLE, (0, 1), (1, 1), ()), False)
        self.same(shows_story(silent, 2, COIN_TABLE, (1, 1), (0, 1, 1), ()), False)

    def test_longest_part_that_says_a_word(self):
        machine = (((1, "a"),), ((0, None), (1, "b")))
        table = (((0,),), ((0,), (1,)))
        story = (BOOT, ("ask", 0), ("turn",))
        self.same(shows_story(machine, 2, table, (0,), (0, 0), story), True)
        self.same(shows_story(machine, 2, table, (0, 0), (0, 1), story), False)
        story = (BOOT, ("ask", 0), ("turn",), ("ask", 1), ("turn",))
        self.same(heard(machine, 2, table, story), ((1, "a"), (2, "b")))
        self.same(shows_story(machine, 2, table, (0, 1), (0, 1), story), True)
        self.same(shows_story(machine, 2, table, (0, 1), (0, 1, 1), story), False)

    def test_lives_that_say_nothing(self):
        machine, table = (((0, None), (0, "a")),), (((0,), (1,)),)
        self.same(shows_story(machine, 2, table, (0, 0), (), ()), True)
        self.same(shows_story(machine, 2, table, (0, 0), (1,), ()), False)
        self.same(shows_story(COIN, 2, COIN_TABLE, (), (), (("cut",),)), False)

    def test_long_lives_and_long_stories(self):
        story = (BOOT,) + (("ask", 0), ("turn",)) * 40
        self.same(shows_story(COIN, 2, COIN_TABLE, (0,) * 40, (0,) * 21, story), True)
        self.same(shows_story(COIN, 2, COIN_TABLE, (0,) * 40, (0,) * 21, story[:-1]), False)
        longer = story + (("cut",), BOOT) * 59 + (("cut",),)
        self.same(len(longer), 200)
        self.same(shows_story(COIN, 2, COIN_TABLE, (0,) * 40, (0,) * 21, longer), True)
        self.same(shows_story(COIN, 2, COIN_TABLE, (0,) * 40, (0,) * 21, longer + (BOOT,)), False)

    def test_any_value(self):
        story = (BOOT, ("ask", 0), ("turn",))
        values = NO_KIND + [list(story), story[1:], (BOOT, ("ask", False), ("turn",)), story + (None,), story + (["cut"],),
                            (("boot", (0, None, (), False)),) + story[1:], (story,), (BOOT, {}), (("boot", {}),)]
        for value in values:
            self.same(shows_story(COIN, 2, COIN_TABLE, (0,), (), value), False)
            self.same(shows_story(COIN, 2, COIN_TABLE, (), (), value), False)


if __name__ == "__main__":
    unittest.main()
