"""Several machines at one wheel: their table and their lives (point 47)."""

import random
import unittest

from onelife.boxes import joined
from onelife.errors import BadLife, BadMachine, BadMarks, BadTable, TooMany
from onelife.machines import end_of, words_of
from onelife.pairs import is_safe
from onelife.tables import is_apart
from onelife.unions import joined_table, parted_life
from tests.oracles import follow
from tests.tools import COIN, COIN_TABLE, GAME, GAME_TABLE, NO_KIND, Case, random_table, settings

ONE, OTHER = (((0, "a"),),), (((0, "b"),),)
ROW = (((0,),),)


def couples(seed, many):
    """Pairs of machines that can be joined, with marks and a table of each."""
    dice = random.Random(seed)
    found = []
    alone = settings(seed + 1, 8 * many, states=3, options=3, marks=3, longest=3)
    for (one, _, _), (other, _, _) in zip(alone[::2], alone[1::2]):
        marks = dice.choice([2, 3, 4])
        if max(map(len, one)) + max(map(len, other)) < 7:
            found.append((one, other, marks, random_table(dice, one, marks, 3), random_table(dice, other, marks, 3)))
    return found[:many]


class JoinedTableTest(Case):
    def test_known(self):
        self.same(joined_table(ONE, OTHER, 2, ROW, (((1,),),)), (((0, 0), (1, 1)),))
        table = joined_table(COIN, GAME, 2, COIN_TABLE, GAME_TABLE)
        first = ((0, 0), (0, 1))
        self.same(table, (first + ((1, 0, 1), (1, 1), (1, 0, 0)), first, first + ((1, 1), (1, 1, 0))))
        self.same(joined_table(GAME, COIN, 3, GAME_TABLE, COIN_TABLE), (
            ((0, 0, 1), (0, 1), (0, 0, 0), (1, 0), (1, 1)), ((1, 0), (1, 1)), ((0, 1), (0, 1, 0), (1, 0), (1, 1))))
        self.same(joined_table(((),), ((),), 4, ((),), ((),)), ((),))

    def test_rows_of_each_option(self):
        for one, other, marks, first, second in couples(471, 60):
            machine = joined(one, other)
            table = joined_table(one, other, marks, first, second)
            self.assertEqual(len(table), len(machine))
            for state, rows in enumerate(table):
                ours, theirs = first[state // len(other)], second[state % len(other)]
                self.same(rows, tuple([(0,) + row for row in ours] + [(1,) + row for row in theirs]))

    def test_if_both_tables_are_apart_it_is(self):
        apart = 0
        for one, other, marks, first, second in couples(473, 150):
            table = joined_table(one, other, marks, first, second)
            both = is_apart(one, marks, first) and is_apart(other, marks, second)
            if both:
                self.same(is_apart(joined(one, other), marks, table), True)
                self.same(is_safe(joined(one, other), marks, table), True)
            apart += both
        self.assertTrue(20 < apart < 140, apart)

    def test_rows_of_seven_and_eight_marks(self):
        long, longer = (((1,) * 7,),), (((1,) * 8,),)
        self.same(joined_table(ONE, OTHER, 2, long, long), (((0,) + (1,) * 7, (1,) * 8),))
        self.fails(TooMany, joined_table, ONE, OTHER, 2, longer, ROW, most=8)
        self.fails(TooMany, joined_table, ONE, OTHER, 2, ROW, longer, most=8)
        # A state that never comes counts, too.
        self.fails(TooMany, joined_table, (((0, "a"),), ((0, "b"),)), OTHER, 2, ROW + longer, ROW, most=8)

    def test_one_mark_alone(self):
        self.fails(BadMarks, joined_table, ONE, OTHER, 1, ROW, ROW)
        self.fails(BadMarks, joined_table, ONE, OTHER, 1, None, None)
        for marks in (0, 5, None, True, "2"):
            self.fails(BadMarks, joined_table, ONE, OTHER, marks, ROW, ROW)

    def test_too_many_states_and_options(self):
        five, eight, nine = [(((0, None),),) * many for many in (5, 8, 9)]
        rows = {machine: ((tuple([0]),),) * len(machine) for machine in (five, eight, nine)}
        self.assertEqual(len(joined_table(five, eight, 2, rows[five], rows[eight])), 40)
        self.fails(TooMany, joined_table, five, nine, 2, rows[five], rows[nine], most=40)
        three, four = [((((0, None),) * many),) for many in (3, 4)]
        lots = {machine: (((0,),) * len(machine[0]),) for machine in (three, four)}
        self.assertEqual(len(joined_table(three, three, 2, lots[three], lots[three])[0]), 6)
        self.fails(TooMany, joined_table, three, four, 2, lots[three], lots[four], most=6)
        # The longer row is told last, and all of them come behind a wrong table.
        longer = (((0,) * 8,) * 4,)
        self.fails(TooMany, joined_table, three, four, 2, lots[three], longer, most=6)
        self.fails(BadTable, joined_table, three, four, 2, lots[three], None, index=None)
        self.fails(BadMarks, joined_table, five, nine, 1, rows[five], rows[nine])

    def test_errors_from_left_to_right(self):
        self.fails(BadMachine, joined_table, None, None, None, None, None, index=None)
        self.fails(BadMachine, joined_table, ONE, ((None,),), None, None, None, index=0)
        self.fails(BadMarks, joined_table, ONE, OTHER, None, None, None)
        self.fails(BadTable, joined_table, ONE, GAME, 2, None, None, index=None)
        self.fails(BadTable, joined_table, ONE, GAME, 2, ROW, GAME_TABLE[:2] + ((),), index=2)
        self.fails(BadTable, joined_table, GAME, ONE, 2, GAME_TABLE[:1] + (ROW[0],) + GAME_TABLE[2:], ROW, index=1)
        self.fails(BadTable, joined_table, ONE, OTHER, 2, (((2,),),), ROW, index=0)
        self.same(joined_table(ONE, OTHER, 3, (((2,),),), ROW), (((0, 2), (1, 0)),))


class PartedLifeTest(Case):
    def test_known(self):
        self.same(parted_life(ONE, OTHER, (0, 1, 0)), ((0, 0), (0,)))
        self.same(parted_life(ONE, OTHER, ()), ((), ()))
        self.same(parted_life(ONE, OTHER, (0, 0)), ((0, 0), ()))
        self.same(parted_life(ONE, OTHER, (1,)), ((), (0,)))
        self.same(parted_life(COIN, GAME, (1, 2, 4, 0, 3, 1)), ((1, 0, 1), (0, 2, 1)))
        self.same(parted_life(ONE, ((),), (0, 0, 0)), ((0, 0, 0), ()))

    def test_forty_options_and_more(self):
        self.same(parted_life(ONE, OTHER, (0, 1) * 20), ((0,) * 20, (0,) * 20))
        self.fails(BadLife, parted_life, ONE, OTHER, (0,) * 41)

    def test_the_options_of_each_in_their_order(self):
        dice = random.Random(474)
        for one, other, marks, first, second in couples(475, 80):
            machine = joined(one, other)
            life, lives = (), [(), ()]
            for _ in range(12):
                states = [follow(one, first, lives[0])[0], follow(other, second, lives[1])[0]]
                ways = [(0, option) for option in range(len(one[states[0]]))]
                ways += [(1, option) for option in range(len(other[states[1]]))]
                if not ways:
                    break
                at = dice.randrange(len(ways))
                side, option = ways[at]
                life += (at,)
                lives[side] += (option,)
                self.same(parted_life(one, other, life), tuple(lives))
            self.same(end_of(machine, life), end_of(one, lives[0]) * len(other) + end_of(other, lives[1]))
            self.same(sorted(words_of(machine, life)), sorted(words_of(one, lives[0]) + words_of(other, lives[1])))
            table = joined_table(one, other, marks, first, second)
            spelled = [len(follow(machine_of, table_of, of)[1]) for machine_of, table_of, of in (
                (one, first, lives[0]), (other, second, lives[1]), (machine, table, life))]
            self.same(spelled[0] + spelled[1] + len(life), spelled[2])

    def test_no_life(self):
        for value in [(2,), (0, 2), (0, -1), (True,), [0], (None,)] + NO_KIND:
            if value != ():
                self.fails(BadLife, parted_life, ONE, OTHER, value)

    def test_errors_from_left_to_right(self):
        self.fails(BadMachine, parted_life, None, None, None, index=None)
        self.fails(BadMachine, parted_life, ONE, None, None, index=None)
        self.fails(BadMachine, parted_life, ONE, (((0, 1),),), (5,), index=0)
        self.fails(TooMany, parted_life, (((0, None),),) * 5, (((0, None),),) * 9, None, most=40)
        self.fails(TooMany, parted_life, (((0, None),) * 3,), (((0, None),) * 4,), (99,), most=6)


if __name__ == "__main__":
    unittest.main()
