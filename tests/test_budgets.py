"""What a wheel of so many teeth is enough for, and which of two tables needs more (point 25)."""

import random
import unittest

from onelife.budgets import longer_life, most_longer, most_options, never_longer, teeth_for
from onelife.errors import BadMachine, BadMarks, BadNumber, BadTable, TooMany
from tests.oracles import follow, lives_within
from tests.tools import COIN, COIN_TABLE, GAME, GAME_TABLE, Case, in_a_row, random_table, settings

MIXED_TABLE = (((0,), (1, 0)),)
END = ((),)
LONGER = (never_longer, most_longer, longer_life)


def rows(*lengths):
    """The rows of a state, of marks 0, by their lengths."""
    return tuple([(0,) * length for length in lengths])


def lives_up_to(machine, options):
    """All lives of at most so many options, the shorter ones first."""
    found, newest = [()], [((), 0)]
    for _ in range(options):
        newest = [(life + (option,), target) for life, state in newest for option, (target, _) in enumerate(machine[state])]
        found.extend([life for life, _ in newest])
    return found


def more(machine, one, other, life):
    """How many marks more a life spells by one table than by another."""
    return len(follow(machine, one, life)[1]) - len(follow(machine, other, life)[1])


class TeethTest(Case):
    def test_known(self):
        self.same([most_options(COIN, 2, MIXED_TABLE, 9), teeth_for(COIN, 2, MIXED_TABLE, 9)], [9, 18])
        self.same([most_options(COIN, 2, (((0, 0), (1, 1, 1)),), teeth) for teeth in (0, 1, 2, 3, 4, 2000)], [0, 0, 1, 1, 2, 1000])

    def test_0_and_2000(self):
        self.same([most_options(COIN, 2, MIXED_TABLE, 0), teeth_for(COIN, 2, MIXED_TABLE, 0)], [0, 0])
        self.same([most_options(COIN, 2, MIXED_TABLE, 2000), teeth_for(COIN, 2, MIXED_TABLE, 2000)], [2000, 4000])
        self.same(teeth_for(COIN, 2, ((rows(8, 8)),), 2000), 16000)
        self.same(most_options(COIN, 2, ((rows(8, 8)),), 2000), 250)

    def test_lives_that_spell_nothing_more(self):
        self.same([most_options(END, 1, END, 2000), teeth_for(END, 1, END, 2000)], [0, 0])
        machine, table = in_a_row([(2, 3), (1, 5)])
        self.same([most_options(machine, 1, table, teeth) for teeth in (0, 2, 3, 7, 8, 9, 2000)], [0, 0, 1, 1, 2, 2, 2])
        self.same([teeth_for(machine, 1, table, options) for options in (0, 1, 2, 3, 2000)], [0, 3, 8, 8, 8])

    def test_the_longest_life_need_not_have_the_most_options(self):
        # An end is dear, and to go on is cheap but is not had behind it.
        machine = (((0, None), (1, None)), ())
        table = (rows(1, 8), ())
        self.same([teeth_for(machine, 1, table, options) for options in (1, 2, 3)], [8, 9, 10])
        self.same([most_options(machine, 1, table, teeth) for teeth in (1, 8, 9)], [1, 8, 9])
        dear = (rows(8, 1), ())
        self.same([most_options(machine, 1, dear, teeth) for teeth in (1, 8, 9, 16, 17)], [1, 1, 2, 2, 3])

    def test_a_wheel_of_so_many_teeth_is_enough(self):
        for machine, marks, table in settings(251, 100, states=3, options=3, longest=4):
            lives = lives_within(machine, table, 7)
            for teeth in range(8):
                wanted = max([len(life) for life, spelled, _ in lives if len(spelled) <= teeth])
                self.same(most_options(machine, marks, table, teeth), wanted)
            for options in range(5):
                wanted = max([len(follow(machine, table, life)[1]) for life in lives_up_to(machine, options)])
                self.same(teeth_for(machine, marks, table, options), wanted)

    def test_numbers(self):
        for value in (None, True, False, -1, 2001, 10 ** 30, "1", [], (), {}):
            self.fails(BadNumber, most_options, COIN, 2, COIN_TABLE, value)
            self.fails(BadNumber, teeth_for, COIN, 2, COIN_TABLE, value)

    def test_errors_from_left_to_right(self):
        for count in (most_options, teeth_for):
            self.fails(BadMachine, count, None, 0, None, None, index=None)
            self.fails(BadMarks, count, COIN, 0, None, None)
            self.fails(BadTable, count, COIN, 2, (((0,), (2,)),), None, index=0)


class LongerTest(Case):
    def check(self, machine, one, other, wanted):
        """Hold all three to the greatest number wanted, None if there is no greatest; the life that is found."""
        self.same(never_longer(machine, 1, one, other), wanted == 0)
        self.same(most_longer(machine, 1, one, other), wanted)
        life = longer_life(machine, 1, one, other)
        if wanted == 0:
            self.assertIsNone(life)
        else:
            self.assertGreater(more(machine, one, other, life), 0)
        return life

    def test_known(self):
        self.same([never_longer(COIN, 2, COIN_TABLE, MIXED_TABLE), most_longer(COIN, 2, MIXED_TABLE, COIN_TABLE)], [True, None])
        self.same([longer_life(COIN, 2, MIXED_TABLE, COIN_TABLE), longer_life(COIN, 2, MIXED_TABLE, MIXED_TABLE)], [(1,), None])
        self.same(most_longer((((1, "a"),), ()), 2, (((0, 1, 1),), ()), (((0,),), ())), 2)

    def test_never_longer(self):
        self.check(END, END, END, 0)
        self.check(COIN, (rows(1, 2),), (rows(1, 2),), 0)
        self.check(COIN, (rows(1, 2),), (rows(1, 3),), 0)
        # One option is longer, but no life comes to it without one that is shorter by as much.
        machine = (((1, None),), ((0, None),))
        self.check(machine, (rows(1), rows(4)), (rows(4), rows(1)), 0)
        self.same(self.check(machine, (rows(4), rows(1)), (rows(1), rows(4)), 3), (0,))

    def test_longer_only_at_a_state_that_no_life_comes_to(self):
        machine = (((0, None),), ((1, None), (0, None)))
        self.check(machine, (rows(1), rows(8, 8)), (rows(1), rows(1, 1)), 0)
        machine = (((1, None),), (), ((1, None), (2, None)))
        self.same(self.check(machine, (rows(3), (), rows(8, 8)), (rows(2), (), rows(1, 1)), 1), (0,))

    def test_no_greatest(self):
        self.same(len(self.check(COIN, (rows(1, 2),), (rows(2, 1),), None)), 1)
        # A way round that is longer by one mark only, behind what is shorter.
        machine = (((1, None),), ((2, None),), ((1, None),))
        life = self.check(machine, (rows(1), rows(2), rows(5)), (rows(4), rows(4), rows(2)), None)
        # Shorter by 3 at first, then by 2 and longer by 3 each time round.
        self.same(life, (0,) * 9)
        self.same(more(machine, (rows(1), rows(2), rows(5)), (rows(4), rows(4), rows(2)), life), 1)
        # Round and round neither is longer.
        self.check(machine, (rows(1), rows(2), rows(5)), (rows(4), rows(4), rows(3)), 0)
        self.same(self.check(machine, (rows(2), rows(2), rows(5)), (rows(1), rows(4), rows(3)), 1), (0,))

    def test_a_greatest_number_that_is_not_found_at_once(self):
        # The other way is longer still, but shorter at first.
        machine = (((3, None), (1, None)), ((2, None),), (), ())
        one, other = (rows(2, 1), rows(8), (), ()), (rows(1, 2), rows(1), (), ())
        self.same(self.check(machine, one, other, 6), (0,))
        self.same(self.check(machine, one, (rows(2, 2), rows(1), (), ()), 6), (1, 0))
        # An option back to the start that takes all away again changes nothing.
        back = (((3, None), (1, None)), ((2, None),), ((0, None),), ())
        self.same(self.check(back, one[:2] + (rows(1), ()), other[:2] + (rows(7), ()), 6), (0,))
        self.same(self.check(back, one[:2] + (rows(2), ()), other[:2] + (rows(7), ()), None), (0,))

    def chain(self, states, round_more):
        """A chain of states, each shorter by a mark, with a way round its last one that is longer by so many."""
        machine = tuple([((at + 1, None),) for at in range(states)]) + (((states, None),),)
        return machine, (rows(1),) * states + (rows(1 + round_more),), (rows(2),) * states + (rows(1),)

    def test_a_shortest_longer_life_of_forty_options_and_more(self):
        # Behind 19 options 20 more are as long, and one more is longer.
        machine, one, other = self.chain(19, 1)
        self.same(self.check(machine, one, other, None), (0,) * 39)
        machine, one, other = self.chain(20, 1)
        self.same([never_longer(machine, 1, one, other), most_longer(machine, 1, one, other)], [False, None])
        self.fails(TooMany, longer_life, machine, 1, one, other, most=40)
        # Of just forty options: 26 that are shorter by a mark each, and 14 times round by two marks more.
        machine, one, other = self.chain(26, 2)
        self.same(self.check(machine, one, other, None), (0,) * 40)
        machine, one, other = self.chain(27, 2)
        self.fails(TooMany, longer_life, machine, 1, one, other, most=40)
        machine, one, other = self.chain(39, 7)
        self.fails(TooMany, longer_life, machine, 1, one, other, most=40)

    def test_the_longer_life_has_the_fewest_options(self):
        dice = random.Random(252)
        kinds = {}
        for machine, marks, one in settings(253, 400, states=3, options=3, longest=4):
            other = random_table(dice, machine, marks, 4)
            lives = lives_up_to(machine, 5)
            gains = {life: more(machine, one, other, life) for life in lives}
            longer = [life for life in lives if gains[life] > 0]
            life = longer_life(machine, marks, one, other)
            if longer:
                self.assertEqual(len(life), len(longer[0]))
                self.assertGreater(gains[life], 0)
            else:
                self.assertTrue(life is None or len(life) > 5)
            most = most_longer(machine, marks, one, other)
            self.same(never_longer(machine, marks, one, other), most == 0)
            self.same(life is None, most == 0)
            if most is not None:
                # A life that comes to none of three states twice has at most two options.
                self.same(most, max([gains[short] for short in lives if len(short) < 3]))
                self.same(most, max(gains.values()))
            kinds[None if most is None else min(most, 1)] = kinds.get(None if most is None else min(most, 1), 0) + 1
        self.assertTrue(min(kinds.values()) > 30 and len(kinds) == 3, kinds)

    def test_errors_from_left_to_right(self):
        for longer in LONGER:
            self.fails(BadMachine, longer, None, 0, None, None, index=None)
            self.fails(BadMarks, longer, COIN, 0, None, None)
            self.fails(BadTable, longer, COIN, 2, None, (((0,), 1),), index=None)
            self.fails(BadTable, longer, GAME, 2, GAME_TABLE[:1] + ((None,),) + GAME_TABLE[2:], None, index=1)
            self.fails(BadTable, longer, GAME, 2, GAME_TABLE, GAME_TABLE[:2] + (rows(1),), index=2)
            self.fails(BadTable, longer, COIN, 2, COIN_TABLE, [], index=None)
            self.fails(BadTable, longer, COIN, 1, COIN_TABLE, (rows(1, 1),), index=0)


if __name__ == "__main__":
    unittest.main()
