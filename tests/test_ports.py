"""Two houses that send each other letters with coins (points 48 and 49)."""

import random
import unittest
from itertools import product

from onelife.codes import loud_table
from onelife.errors import BadHouse, BadLife, BadMarks, BadNumber, BadStory, BadTable
from onelife.machines import can_come, is_loud
from onelife.pairs import is_safe
from onelife.ports import both_heard, coins_behind, most_coins, on_the_way, port_machine, port_stand, shows_coins
from tests.post import Desk, Post, machine_of, posts_within, random_pairs
from tests.tools import BIRTH, NO_KIND, Case, random_table

EVERY = [ports for ports in product(range(4), range(4), range(1, 4), (False, True))]
BEHIND = (both_heard, coins_behind, on_the_way)
BOOT = ("boot", BIRTH)
CUT = ("cut",)
TURN = ("turn",)
NAMED = (0, 1, 1, True)
LOOSE = (0, 1, 1, False)


def tables_of(ports, *rows):
    """Tables of both houses in which the options of each state have the first ones of these rows."""
    return [tuple([rows[:len(state)] for state in port_machine(ports, side)]) for side in (0, 1)]


NAMED_TABLES = tables_of(NAMED, (0,), (1, 0))
LOOSE_TABLES = tables_of(LOOSE, (0,), (1,))
# One mark alone does not tell the options apart.
ALIKE_TABLES = tables_of(LOOSE, (0,), (0,))


def of(side, *steps):
    return tuple([(side, step) for step in steps])


SENT = of(1, BOOT, ("ask", 0), TURN)
TAKEN = of(0, BOOT, ("ask", 0), TURN)


class MachineTest(Case):
    def test_numbered(self):
        self.same(port_machine(NAMED, 0), (((1, "ina"),), ((2, "outa"),), ()))
        self.same(port_machine(NAMED, 1), (((1, "outa"), (2, "ina")), ((3, "ina"),), ((3, "outa"),), ()))
        self.same(port_machine((2, 0, 2, True), 0)[:3], (
            ((1, "outa"), (2, "ina")), ((3, "outb"), (4, "ina")), ((4, "outa"), (5, "inb"))))

    def test_not_numbered(self):
        self.same(port_machine(LOOSE, 0)[:2], (((1, "ina"),), ((2, "outa"), (3, "ina"))))
        self.same(port_machine((0, 3, 3, False), 0)[0], ((1, "ina"), (1, "inb"), (1, "inc")))
        # Six coins are too many for one more.
        six = port_machine((0, 3, 1, False), 1)
        stands = machine_of((0, 3, 1, False), 1)[1]
        self.same(six[stands.index((6, 0, 0))], ((stands.index((5, 1, 0)), "outa"),))
        self.same(six[stands.index((6, 1, 0))], ())

    def test_each_ports(self):
        for ports in EVERY:
            for side in (0, 1):
                machine, stands = machine_of(ports, side)
                self.same(port_machine(ports, side), machine)
                self.same(can_come(machine), tuple(range(len(stands))))
                self.assertTrue(is_loud(machine) and len(stands) <= 28)

    def test_no_coins_and_three(self):
        self.same(port_machine((0, 0, 1, True), 0), (((1, "ina"),), ((2, "outa"),), ()))
        self.same(port_machine((3, 0, 1, True), 0), (((1, "outa"), (2, "ina")), ((3, "ina"),), ((3, "outa"),), ()))
        three = port_machine((3, 0, 3, True), 0)
        self.same([three[0], len(three)], [((1, "outa"), (2, "ina")), 16])

    def test_stands(self):
        self.same([port_stand(NAMED, 1, life) for life in ((), (0,), (1,), (0, 0), (1, 0))],
                  [(1, 0, 0), (0, 1, 0), (2, 0, 1), (1, 1, 1), (1, 1, 1)])
        self.same(port_stand(LOOSE, 1, (1, 1, 1)), (4, 0, 0))
        self.same(port_stand((0, 3, 3, False), 0, (2, 2, 0, 0, 0)), (1, 2, 0))
        self.same(port_stand((2, 3, 3, True), 0, (0, 0, 0, 0, 0)), (1, 3, 2))

    def test_stands_of_lives(self):
        dice = random.Random(481)
        for ports in EVERY:
            for side in (0, 1):
                life, desk = (), Desk(ports, side)
                while desk.words() and len(life) < 14:
                    option = dice.randrange(len(desk.words()))
                    life += (option,)
                    desk.do(desk.words()[option])
                    self.same(port_stand(ports, side, life), desk.stand())
                self.fails(BadLife, port_stand, ports, side, life + (len(desk.words()),))

    def test_no_ports(self):
        wrong = NO_KIND + [(0, 1, 1), (0, 1, 1, True, 0), [0, 1, 1, True], (-1, 0, 1, True), (4, 0, 1, True), (0, -1, 1, True), (0, 4, 1, True),
                           (True, 0, 1, True), (0, False, 1, True), (0, 0, 0, True), (0, 0, 4, True), (0, 0, True, True), (0, 0, 1, 1),
                           (0, 0, 1, 0), (0, 0, 1, None), (None, 0, 1, True), (0, 0, None, False), (0, 0, 1, "True"), ((0,), 0, 1, True)]
        for ports in wrong:
            self.fails(BadHouse, port_machine, ports, None)
            self.fails(BadHouse, port_stand, ports, None, None)
            for behind in BEHIND:
                self.fails(BadHouse, behind, ports, None, None, None, None)
            self.fails(BadHouse, most_coins, ports, None, None, None, None)
            self.fails(BadHouse, shows_coins, ports, None, None, None, None, None)

    def test_no_side_and_no_life(self):
        for side in (None, True, False, -1, 2, "0", [], (0,), {}):
            self.fails(BadNumber, port_machine, NAMED, side)
            self.fails(BadNumber, port_stand, NAMED, side, None)
        for life in (None, [0], (1,), (-1,), (True,), (0, 0, 0), (None,), 0, (0,) * 41):
            self.fails(BadLife, port_stand, NAMED, 0, life)


class StoryTest(Case):
    def told(self, story, ports=NAMED, tables=None):
        one, other = tables or NAMED_TABLES
        return [behind(ports, 2, one, other, story) for behind in BEHIND]

    def test_a_letter_that_is_sent_and_taken(self):
        self.same(self.told(()), [((), ()), 1, (0, 0)])
        self.same(self.told(SENT[:2]), [((), ()), 1, (0, 0)])
        self.same(self.told(SENT), [((), ((1, "outa"),)), 0, (0, 1)])
        self.same(self.told(SENT + TAKEN[:2]), [((), ((1, "outa"),)), 0, (0, 1)])
        self.same(self.told(SENT + TAKEN), [(((1, "ina"),), ((1, "outa"),)), 1, (0, 0)])
        self.same(self.told(SENT + TAKEN + of(0, ("ask", 0), TURN)), [(((1, "ina"), (2, "outa")), ((1, "outa"),)), 0, (1, 0)])

    def test_a_letter_that_was_not_sent(self):
        for story, index in ((TAKEN, 1), (SENT[:2] + TAKEN, 3), (of(1, BOOT, ("ask", 1)), 1)):
            for behind in BEHIND:
                self.fails(BadStory, behind, NAMED, 2, NAMED_TABLES[0], NAMED_TABLES[1], story, index=index)
        # To send is let at once, and a note of a letter taken may be booted at any time.
        self.same(self.told(SENT + TAKEN[:2] + of(0, CUT, BOOT, CUT, ("boot", (0, None, (), 0))))[1], 0)

    def test_a_letter_of_the_wrong_house_and_of_another_name(self):
        ports = (1, 1, 2, False)
        tables = tables_of(ports, (0,), (1,), (2,))
        said = of(1, BOOT, ("ask", 0), TURN)
        # House 1 has sent a, so that house 0 may take a, and no b; what it has sent itself it can't take.
        for story, bad in ((said + of(0, BOOT, ("ask", 1)), None), (said + of(0, BOOT, ("ask", 2)), 4), (said + of(1, ("ask", 0)), 3)):
            if bad is None:
                self.same(both_heard(ports, 3, tables[0], tables[1], story), ((), ((1, "outa"),)))
            else:
                self.fails(BadStory, both_heard, ports, 3, tables[0], tables[1], story, index=bad)

    def test_one_handed_in_late_and_one_held_back(self):
        story = SENT + of(1, CUT, ("boot", (1, 0, (0,), 1)), CUT) + TAKEN
        self.same(self.told(story), [(((1, "ina"),), ((1, "outa"), (1, "outa"))), 1, (0, 0)])
        self.same(self.told(SENT + of(0, BOOT, CUT, BOOT, CUT)), [((), ((1, "outa"),)), 0, (0, 1)])

    def test_one_taken_twice(self):
        twice = SENT + TAKEN + of(0, ("ask", 1), TURN)
        self.same(self.told(twice, LOOSE, LOOSE_TABLES), [(((1, "ina"), (2, "ina")), ((1, "outa"),)), 2, (0, 1)])
        for behind in BEHIND:
            self.fails(BadStory, behind, NAMED, 2, NAMED_TABLES[0], NAMED_TABLES[1], twice, index=6)
        # So often as it likes, up to six coins; nothing is kept of what was taken.
        often = SENT + TAKEN + of(0, *((("ask", 1), TURN) * 5))
        self.same(self.told(often, LOOSE, LOOSE_TABLES)[1:], [6, (0, 1)])
        self.fails(BadStory, coins_behind, LOOSE, 2, LOOSE_TABLES[0], LOOSE_TABLES[1], often + of(0, ("ask", 1)), index=16)

    def test_the_first_of_the_longest_lives(self):
        # By marks that are alike two lives of house 1 speak; the second one is as long.
        ports = (1, 1, 1, False)
        tables = tables_of(ports, (0,), (0,))
        story = of(0, BOOT, ("ask", 0), TURN) + of(1, BOOT, ("ask", 1), CUT, BOOT, ("ask", 0), TURN, CUT, ("boot", (1, 0, (1,), 1)))
        self.same([behind(ports, 1, tables[0], tables[1], story) for behind in BEHIND],
                  [(((1, "outa"),), ((1, "outa"), (1, "ina"))), 2, (1, 1)])
        other = story[:4] + of(1, ("ask", 0), CUT, BOOT, ("ask", 1), TURN, CUT, ("boot", (1, 0, (0,), 1)))
        self.same([behind(ports, 1, tables[0], tables[1], other) for behind in BEHIND],
                  [(((1, "outa"),), ((1, "ina"), (1, "outa"))), 2, (1, 0)])

    def test_a_house_can_stand_with_what_is_decided(self):
        # A row of two marks of which one is done: the coin is not sent yet.
        tables = tables_of(NAMED, (0, 1), (1, 0))
        self.same([self.told(SENT[:many] + of(1, TURN)[:max(0, many - 2)], NAMED, tables)[1] for many in (1, 2, 3)], [1, 1, 0])
        self.same(self.told(SENT, NAMED, tables), [((), ()), 1, (0, 0)])
        # Where lives turn alike, the house can stand with the one that has more.
        story = SENT + TAKEN + of(1, CUT)
        self.same(coins_behind(LOOSE, 1, ALIKE_TABLES[0], ALIKE_TABLES[1], story), 1)

    def test_200_pairs_and_201(self):
        story = of(1, BOOT, CUT) * 50 + of(0, BOOT, CUT) * 50
        self.same(self.told(story), [((), ()), 1, (0, 0)])
        for behind in BEHIND:
            self.fails(BadStory, behind, NAMED, 2, NAMED_TABLES[0], NAMED_TABLES[1], story + of(0, BOOT), index=None)
            self.fails(BadStory, behind, NAMED, 2, NAMED_TABLES[0], NAMED_TABLES[1], (None,) * 201, index=None)

    def test_no_story(self):
        for value in (None, [], [(0, BOOT)], {}, "", 0, True, "boot"):
            for behind in BEHIND:
                self.fails(BadStory, behind, NAMED, 2, NAMED_TABLES[0], NAMED_TABLES[1], value, index=None)
        for pair in (None, (), (0,), (0, BOOT, 0), [0, BOOT], BOOT, (2, BOOT), (-1, BOOT), (True, BOOT), (False, BOOT), (None, BOOT), ("0", BOOT),
                     (0, None), (0, [BOOT]), (0, ()), (0, CUT), (0, TURN), (0, ("ask", 0)), (0, ("seal",)), (0, ("boot", (1, 0, (0,), 1))),
                     (0, ("boot", (False, None, (), 0))), (1, ("go", 0)), "ab", {}, (BOOT, 0)):
            for behind in BEHIND:
                self.fails(BadStory, behind, NAMED, 2, NAMED_TABLES[0], NAMED_TABLES[1], (pair,), index=0)
                self.fails(BadStory, behind, NAMED, 2, NAMED_TABLES[0], NAMED_TABLES[1], of(1, BOOT, CUT) + (pair, None), index=2)
        # A note of the other house's shelf is none of its own.
        note = ("boot", (1, 0, (0,), 1))
        self.fails(BadStory, both_heard, NAMED, 2, NAMED_TABLES[0], NAMED_TABLES[1], SENT + of(0, note), index=3)

    def test_against_a_second_telling(self):
        dice = random.Random(482)
        for _ in range(250):
            ports = dice.choice(EVERY)
            marks = dice.randint(1, 3)
            tables = [random_table(dice, port_machine(ports, side), marks, 2) for side in (0, 1)]
            story = random_pairs(dice, ports, tables, dice.randint(0, 40))
            post = Post(ports, tables, story)
            self.same([behind(ports, marks, tables[0], tables[1], story) for behind in BEHIND],
                      [post.heard(), post.coins(), post.on_the_way()])
            at = dice.randint(0, len(story))
            pair = (dice.randrange(2), dice.choice([TURN, CUT, BOOT, ("ask", 0), ("ask", 1), ("ask", 2)]))
            story = story[:at] + (pair,) + story[at:]
            bad = Post(ports, tables, story).bad
            if bad is not None:
                self.fails(BadStory, both_heard, ports, marks, tables[0], tables[1], story, index=bad)

    def test_numbered_and_safe(self):
        dice = random.Random(483)
        handed = 0
        for _ in range(250):
            ports = dice.choice([ports for ports in EVERY if ports[3]])
            machines = [port_machine(ports, side) for side in (0, 1)]
            tables = [dice.choice([loud_table(machine, 2), random_table(dice, machine, 2, 3)]) for machine in machines]
            if not all([is_safe(machine, 2, table) for machine, table in zip(machines, tables)]):
                continue
            story = random_pairs(dice, ports, tables, dice.randint(0, 60))
            way = on_the_way(ports, 2, tables[0], tables[1], story)
            self.assertTrue(min(way) >= 0)
            coins = [desk.coins for desk in Post(ports, tables, story).longest()]
            self.assertEqual(sum(coins) + sum(way), ports[0] + ports[1])
            self.assertLessEqual(coins_behind(ports, 2, tables[0], tables[1], story), ports[0] + ports[1])
            handed += sum(way)
        self.assertGreater(handed, 20)

    def test_errors_from_left_to_right(self):
        one, other = NAMED_TABLES
        for behind in BEHIND:
            for marks in (None, True, 0, 5, "2"):
                self.fails(BadMarks, behind, NAMED, marks, None, None, None)
            self.fails(BadTable, behind, NAMED, 2, None, None, None, index=None)
            self.fails(BadTable, behind, NAMED, 2, other, None, None, index=None)
            self.fails(BadTable, behind, NAMED, 2, one, one, None, index=None)
            self.fails(BadTable, behind, NAMED, 2, one, other[:2] + (((2,),),) + other[3:], None, index=2)


class MostTest(Case):
    def test_known(self):
        one, other = ALIKE_TABLES
        self.same([most_coins(LOOSE, 1, one, other, many) for many in range(10)], [1] * 8 + [2, 2])
        # Where each letter is taken once, and lives don't turn alike, no coin comes of nothing.
        self.same([most_coins(NAMED, 2, *NAMED_TABLES, many) for many in range(10)], [1] * 10)

    def test_a_wheel_that_does_not_tell_lives_apart(self):
        # House 0 sends its coin and can stand with the letter that it takes instead, since both turn the wheel alike.
        ports = (1, 1, 1, True)
        tables = tables_of(ports, (0,), (0,))
        story = SENT + of(0, BOOT, ("ask", 1), CUT, BOOT, ("ask", 0), TURN) + of(1, ("ask", 0), TURN)
        self.same(coins_behind(ports, 1, tables[0], tables[1], story), 3)
        self.same(on_the_way(ports, 1, tables[0], tables[1], story), (0, 1))
        self.same(on_the_way(ports, 1, tables[0], tables[1], story + of(0, CUT, ("boot", (1, 0, (1,), 1)))), (0, 1))
        self.same([most_coins(ports, 1, tables[0], tables[1], most) for most in (0, 9)], [2, 2])

    def test_against_all_stories(self):
        dice = random.Random(491)
        greatest = []
        lengths = {(0, 1, 1, False): 8, (1, 0, 2, False): 8, (1, 1, 1, True): 5, (2, 1, 1, False): 5, (1, 1, 2, True): 5}
        for _ in range(25):
            ports = dice.choice(list(lengths))
            marks = dice.choice([1, 1, 2])
            tables = [random_table(dice, port_machine(ports, side), marks, 1) for side in (0, 1)]
            most = lengths[ports] - dice.choice([0, 0, 1, 4])
            coins = {story: post.coins() for story, post in posts_within(ports, tables, most)}
            found = most_coins(ports, marks, tables[0], tables[1], most)
            self.same(found, max(coins.values()))
            for story in dice.sample(list(coins), min(8, len(coins))):
                self.same(shows_coins(ports, marks, tables[0], tables[1], most, story), coins[story] == found)
            greatest.append(found - ports[0] - ports[1])
        self.assertTrue(0 < len([more for more in greatest if more > 0]) < 20, greatest)

    def test_shown(self):
        one, other = ALIKE_TABLES
        twice = SENT + TAKEN + of(0, ("ask", 1), TURN)
        self.same([shows_coins(LOOSE, 1, one, other, most, twice) for most in (7, 8, 9)], [False, True, True])
        self.same([shows_coins(LOOSE, 1, one, other, most, ()) for most in (0, 7, 8)], [True, True, False])
        self.same([shows_coins(LOOSE, 1, one, other, 9, story) for story in (twice + of(0, CUT), SENT, twice[:-1])], [True, False, False])
        self.same(shows_coins(LOOSE, 1, one, other, 8, twice + of(0, CUT)), False)
        self.same(shows_coins(LOOSE, 1, one, other, 6, SENT), False)

    def test_any_value(self):
        one, other = ALIKE_TABLES
        twice = SENT + TAKEN + of(0, ("ask", 1), TURN)
        for value in NO_KIND + [list(twice), twice[:-1] + ((0, CUT), (0, TURN)), ((0, BOOT),) * 2, (BOOT,), twice[1:], ((True, BOOT),), ((0, {}),),
                                ((0, ("boot", [])),), tuple([(1 - side, step) for side, step in twice])]:
            if value != ():
                self.same(shows_coins(LOOSE, 1, one, other, 8, value), False)
                self.same(shows_coins(LOOSE, 1, one, other, 0, value), False)

    def test_errors_from_left_to_right(self):
        one, other = ALIKE_TABLES
        for value in (None, True, False, -1, 10, "1", [], (1,), {}):
            self.fails(BadNumber, most_coins, LOOSE, 1, one, other, value)
            self.fails(BadNumber, shows_coins, LOOSE, 1, one, other, value, ())
        for coins, more in ((most_coins, (None,)), (shows_coins, (None, None))):
            self.fails(BadMarks, coins, LOOSE, 5, None, None, *more)
            self.fails(BadTable, coins, LOOSE, 1, None, None, *more, index=None)
            self.fails(BadTable, coins, LOOSE, 1, one, None, *more, index=None)
            self.fails(BadTable, coins, LOOSE, 1, one, (((1,), (0,)),) + other[1:], *more, index=0)


if __name__ == "__main__":
    unittest.main()
