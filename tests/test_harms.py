"""Houses with a fault (point 17)."""

import random
import unittest

from onelife.errors import BadMachine, BadManner, BadMarks, BadNumber, BadTable
from onelife.harms import harm_in, harm_of, shows_harm
from onelife.pairs import is_safe
from onelife.stories import World
from tests.manners import MANNERS, House, random_story, stories_within
from tests.oracles import least_paper
from tests.tools import BIRTH, COIN, COIN_TABLE, GAME, GAME_TABLE, NO_KIND, SAME_TABLE, Case, settings

BOOT = ("boot", BIRTH)
LONG_TABLE = (((0, 1), (1, 0)),)
SILENT = (((0, None), (0, None)),)


class HarmsTest(Case):
    def held(self, machine, marks, table, manner, most):
        """What harm_of returns, once it is held to what the document asks of it by trying all stories."""
        found = harm_of(machine, marks, table, manner, most)
        harmful = [story for story in stories_within(machine, table, manner, most)
                   if House(machine, table, manner, story).harm() is not None]
        least = len(harmful[0]) if harmful else None
        if found is None:
            self.assertIsNone(least)
        else:
            word, story = found
            house = House(machine, table, manner, story)
            self.assertEqual((house.bad, house.harm(), len(story)), (None, word, least))
        self.same(shows_harm(machine, marks, table, manner, most, found), True)
        self.same(shows_harm(machine, marks, table, manner, most, None), found is None)
        for story in harmful[:40]:
            harm = House(machine, table, manner, story).harm()
            self.same(shows_harm(machine, marks, table, manner, most, (harm, story)), len(story) == least)
            other = "dead" if harm == "two lives" else "two lives"
            self.same(shows_harm(machine, marks, table, manner, most, (other, story)), False)
        return found

    def test_coin_in_each_manner(self):
        self.same(self.held(COIN, 2, COIN_TABLE, "sealed", 7), None)
        self.same(self.held(COIN, 2, COIN_TABLE, "late", 3)[0], "dead")
        self.same(self.held(COIN, 2, COIN_TABLE, "late", 2), None)
        self.same(self.held(COIN, 2, COIN_TABLE, "early", 5)[0], "two lives")
        self.same(self.held(COIN, 2, COIN_TABLE, "early", 4), None)
        self.same(harm_of(COIN, 2, COIN_TABLE, "counted", 7), None)
        self.same(harm_of(COIN, 2, COIN_TABLE, "counted", 8)[0], "two lives")
        self.same(self.held(COIN, 2, COIN_TABLE, "open", 6), None)
        self.same(self.held(COIN, 2, COIN_TABLE, "open", 7)[0], "two lives")

    def test_no_safe_table(self):
        self.same(harm_of(COIN, 1, SAME_TABLE, "sealed", 7), None)
        self.same(harm_of(COIN, 1, SAME_TABLE, "sealed", 8)[0], "two lives")

    def test_late_dies_by_any_turn(self):
        story = (BOOT, ("ask", 0), ("turn",))
        for table in (COIN_TABLE, LONG_TABLE, SAME_TABLE):
            self.same(shows_harm(COIN, 2, table, "late", 9, ("dead", story)), True)
            self.same(shows_harm(COIN, 2, table, "late", 2, ("dead", story)), False)
            self.same(shows_harm(COIN, 2, table, "late", 9, ("dead", story + (("cut",),))), False)
            self.same(shows_harm(COIN, 2, table, "sealed", 9, ("dead", story)), False)
        self.same(harm_of(((),), 2, ((),), "late", 9), None)

    def test_early_with_longer_rows(self):
        self.same(harm_of(COIN, 2, LONG_TABLE, "early", 9), None)
        # By two marks both options begin alike.
        table = (((0, 1), (0, 0)),)
        one = (BOOT, ("ask", 0), ("cut",), BOOT, ("ask", 1), ("turn",), ("cut",), ("boot", (1, 0, (0,), 1)))
        self.same(House(COIN, table, "early", one).heard, [(2, "no"), (2, "yes")])
        self.same(shows_harm(COIN, 2, table, "early", 9, ("two lives", one)), True)
        self.same(shows_harm(COIN, 2, table, "early", 8, ("two lives", one)), True)
        self.same(harm_of(COIN, 2, table, "early", 7), None)

    def test_counted_and_open_hear_by_the_wheel(self):
        one = (BOOT, ("ask", 0), ("turn",), ("cut",), BOOT, ("ask", 1), ("turn",))
        house = House(COIN, COIN_TABLE, "open", one)
        self.same(house.heard, [(1, "yes"), (2, "no")])
        self.same(shows_harm(COIN, 2, COIN_TABLE, "open", 7, ("two lives", one)), True)
        other = (BOOT, ("ask", 0), ("cut",), BOOT, ("ask", 1), ("turn",), ("cut",), ("boot", (1, 0, (0,), 1)))
        self.same(shows_harm(COIN, 2, COIN_TABLE, "counted", 9, ("two lives", other)), True)
        self.same(shows_harm(COIN, 2, COIN_TABLE, "open", 9, ("two lives", other)), False)

    def test_nothing_said_and_nothing_to_do(self):
        for manner in MANNERS:
            self.same(harm_of(SILENT, 1, SAME_TABLE, manner, 9) is None, manner != "late")
            self.same(harm_of(((),), 1, ((),), manner, 9), None)
            self.same(harm_of(COIN, 2, COIN_TABLE, manner, 0), None)
            self.same(shows_harm(COIN, 2, COIN_TABLE, manner, 0, None), True)

    def test_against_all_stories(self):
        dice = random.Random(181)
        found = []
        for machine, marks, table in settings(182, 80, states=2, longest=1, words=("a", "b", "c", None)):
            for manner in MANNERS:
                harm = self.held(machine, marks, table, manner, dice.choice([5, 7, 8]))
                found.append(None if harm is None else harm[0])
        self.assertGreater(min([found.count(word) for word in (None, "two lives", "dead")]), 10)

    def test_nine_steps(self):
        # Row by row the silent options are turned through, and only with the last step two words are told.
        machine = (((1, None), (1, None)), ((1, "a"), (1, "b")))
        for manner, table, most in (("early", (((0,), (0,)), ((1,), (0,))), 7), ("early", (((0,), (1,)), ((1,), (0,))), 7),
                                    ("open", (((0,), (1,)), ((1,), (0,))), 9), ("late", (((0,), (1,)), ((1,), (0,))), 3)):
            found = harm_of(machine, 2, table, manner, 9)
            self.assertEqual(len(found[1]), most, found)
            self.same(harm_of(machine, 2, table, manner, most - 1), None)
            self.same(shows_harm(machine, 2, table, manner, 9, found), True)
            self.same(House(machine, table, manner, found[1]).harm(), found[0])

    def test_sealed_does_no_harm_with_a_safe_table(self):
        dice = random.Random(183)
        for machine, marks, table in settings(184, 150):
            if is_safe(machine, marks, table):
                self.same(harm_of(machine, marks, table, "sealed", 9), None)
                story = random_story(dice, machine, table, "sealed", 60)
                self.same(House(machine, table, "sealed", story).harm(), None)
            self.same(is_safe(machine, marks, table), least_paper(machine, table) is not None)

    def test_two_lives_go_first_if_both_apply(self):
        # No story comes to this: only in the manner "late" a machine dies, and there but one life speaks.
        world = World(COIN, COIN_TABLE, "late")
        world.reading = (1, 0)
        self.same(harm_in(world), "dead")
        world.speakers = {(0,): True, (1,): True}
        self.same([world.is_torn(), world.is_lost(), harm_in(world)], [True, True, "two lives"])
        world.reading = (0, None)
        self.same(harm_in(world), "two lives")

    def test_any_value(self):
        late = ("dead", (BOOT, ("ask", 0), ("turn",)))
        for value in NO_KIND + [late[1], ("dead",), late + (0,), list(late), ("dead", list(late[1])), ("Dead", late[1]),
                                (None, late[1]), (None, (BOOT, ("ask", 0), ("cut",))), ([], late[1]), ({}, late[1]), ("dead", late[1] + (None,)),
                                ("dead", (BOOT, ("ask", False), ("turn",))), ("dead", (BOOT, ("ask", 2), ("turn",))),
                                ("dead", (BOOT, ("ask", 0), ("seal",))), ("dead", (None,) * 3), ("dead", None),
                                ("dead", (("boot", {}), ("ask", 0), ("turn",))), (late[1], "dead")]:
            self.same(shows_harm(COIN, 2, COIN_TABLE, "late", 9, value), False)
            self.same(shows_harm(COIN, 2, COIN_TABLE, "sealed", 6, value), value is None)

    def test_errors_from_left_to_right(self):
        for told, last in ((harm_of, ()), (shows_harm, (None,))):
            self.fails(BadMachine, told, (), None, None, None, None, *last, index=None)
            self.fails(BadMarks, told, COIN, 5, None, None, None, *last)
            self.fails(BadTable, told, COIN, 2, (), None, None, *last, index=None)
            for manner in (None, "", "Sealed", "seal", "sealed ", 0, True, [], {}, ("sealed",), "late,early"):
                self.fails(BadManner, told, COIN, 2, COIN_TABLE, manner, 10, *last)
            for most in (-1, 10, True, False, None, "1", (1,), [], {}, 10 ** 30):
                self.fails(BadNumber, told, GAME, 2, GAME_TABLE, "late", most, *last)


if __name__ == "__main__":
    unittest.main()
