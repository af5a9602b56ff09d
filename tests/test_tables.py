"""Tables of turns, apart and full rows (points 3 and 4)."""

import random
import unittest
from fractions import Fraction

from onelife.errors import BadLife, BadMachine, BadMarks, BadRows, BadTable
from onelife.tables import clash_of, is_apart, is_full, share, spelled, telling
from tests.oracles import all_rows, begins, follow, states_from
from tests.tools import COIN, COIN_TABLE, GAME, GAME_TABLE, Case, settings


class TablesTest(Case):
    def test_spelled_and_telling(self):
        self.same(spelled(GAME, 2, GAME_TABLE, (0, 2, 1)), (0, 1, 0, 0, 1))
        self.same(telling(GAME, 2, GAME_TABLE, (0, 2, 1)), ((2, "on"), (5, "end")))
        self.same(spelled(GAME, 2, GAME_TABLE, ()), ())
        self.same(telling(GAME, 2, GAME_TABLE, (2, 2)), ())

    def test_against_the_oracle(self):
        for machine, marks, table in settings(5, 60):
            life = ()
            while len(life) < 12 and machine[follow(machine, table, life)[0]]:
                self.same(spelled(machine, marks, table, life), follow(machine, table, life)[1])
                self.same(telling(machine, marks, table, life), follow(machine, table, life)[2])
                life += (len(machine[follow(machine, table, life)[0]]) - 1,)

    def test_longest_life_and_rows(self):
        table = (((3,) * 8, (0,)),)
        self.assertEqual(spelled(COIN, 4, table, (0,) * 40), (3,) * 320)
        self.assertEqual(telling(COIN, 4, table, (0,) * 40)[-1], (320, "yes"))
        self.fails(BadLife, spelled, COIN, 4, table, (0,) * 41)
        self.fails(BadLife, telling, COIN, 4, table, (2,))

    def test_marks(self):
        for marks in (1, 4):
            self.assertEqual(spelled(COIN, marks, (((0,), (marks - 1,)),), (1,)), (marks - 1,))
        for marks in (0, 5, -1, True, False, None, "2", (2,), [2], {}, 10 ** 30):
            self.fails(BadMarks, spelled, COIN, marks, COIN_TABLE, ())
            self.fails(BadMarks, is_apart, COIN, marks, COIN_TABLE)
            self.fails(BadMarks, share, marks, None)
            self.fails(BadMarks, is_full, marks, None)

    def test_no_table(self):
        for table in (None, (), [((0,), (1,))], "", {}, 0, True, COIN_TABLE * 2):
            self.fails(BadTable, telling, COIN, 2, table, (), index=None)
        rows = [None, [], [(0,), (1,)], "", {}, 0, True, (), ((0,),), ((0,), (1,), (0,)), ((0,), ()), ((0,), (0,) * 9),
                ((0,), (2,)), ((0,), (-1,)), ((0,), (True,)), ((False,), (1,)), ((0,), (None,)), ((0,), [1]), (0, 1),
                ((0,), "a"), ((0,), ((1,),)), ((0,), ({},))]
        for wrong in rows:
            self.fails(BadTable, is_apart, COIN, 2, (wrong,), index=0)
            self.fails(BadTable, is_apart, (COIN[0],) * 4, 2, COIN_TABLE + (COIN_TABLE[0], wrong, wrong), index=2)
        # Also at a state that never comes, and at one without options.
        self.fails(BadTable, is_apart, GAME, 2, GAME_TABLE[:2] + ((),), index=2)
        self.fails(BadTable, is_apart, GAME, 2, (GAME_TABLE[0], ((0,),), GAME_TABLE[2]), index=1)
        self.fails(BadTable, is_apart, GAME, 1, GAME_TABLE, index=0)

    def test_rows_of_one_and_of_eight_marks(self):
        self.assertEqual(spelled(COIN, 2, (((1,), (0,) * 8),), (0, 1)), (1,) + (0,) * 8)

    def test_clash(self):
        self.same(clash_of(()), None)
        self.same(clash_of(((0,), (1,))), None)
        self.same(clash_of(((0, 1), (1,), (1,), (0,))), (1, 2))
        self.same(clash_of(((0, 1), (0,))), (1, 0))
        self.same(clash_of(((3, 2, 1, 0, 3, 2, 1, 0), (3, 2, 1, 0, 3, 2, 1))), (1, 0))
        dice = random.Random(7)
        rows = all_rows(2, 3)
        for _ in range(200):
            chosen = tuple(dice.sample(rows, dice.randint(0, 4)))
            pairs = [(one, other) for one in range(len(chosen)) for other in range(len(chosen))
                     if one != other and begins(chosen[one], chosen[other])]
            self.same(clash_of(chosen), min(pairs, default=None))

    def test_forty_rows(self):
        rows = tuple([row for row in all_rows(4, 3) if len(row) == 3][:40])
        self.assertEqual(clash_of(rows), None)
        self.assertEqual(clash_of(rows[:39] + rows[:1]), (0, 39))
        self.assertEqual(share(4, rows), (5, 8))
        self.fails(BadRows, clash_of, rows + ((3, 3, 3),))
        self.fails(BadRows, share, 4, rows + ((3, 3, 3),))
        self.fails(BadRows, is_full, 4, rows + ((3, 3, 3),))

    def test_no_rows(self):
        for rows in (None, [], [(0,)], "", {}, 0, True, ((),), ((0,) * 9,), ((4,),), ((-1,),), ((True,),), ((None,),),
                     ((0,), [0]), (0,), ((0,), "a"), (((0,),),), ({},)):
            self.fails(BadRows, clash_of, rows)
            self.fails(BadRows, share, 4, rows)
            self.fails(BadRows, is_full, 4, rows)

    def test_mark_that_is_not_below_marks(self):
        self.fails(BadRows, share, 2, ((0,), (1, 2)))
        self.fails(BadRows, is_full, 2, ((0,), (1, 2)))
        self.fails(BadRows, share, 1, ((1,),))
        self.assertEqual(clash_of(((0,), (1, 3))), None)

    def test_is_apart(self):
        self.same(is_apart(COIN, 2, COIN_TABLE), True)
        self.same(is_apart(COIN, 2, (((0,), (0, 1)),)), False)
        self.same(is_apart(COIN, 2, (((0, 1), (0,)),)), False)
        self.same(is_apart(COIN, 1, (((0,), (0,)),)), False)
        self.same(is_apart(((),), 1, ((),)), True)
        # The rows of unlike states may begin one another, and those of a state that never comes, too.
        self.same(is_apart(GAME, 2, GAME_TABLE), True)
        self.same(is_apart(GAME, 2, GAME_TABLE[:2] + (((1,), (1,)),)), True)
        for machine, marks, table in settings(11, 80):
            clashes = [clash_of(table[state]) for state in states_from(machine, 0)]
            self.same(is_apart(machine, marks, table), all(clash is None for clash in clashes))

    def test_share(self):
        self.same(share(2, ()), (0, 1))
        self.same(share(1, ((0,), (0, 0), (0,))), (3, 1))
        self.same(share(3, ((0,), (1, 2), (2, 2), (1, 1))), (2, 3))
        self.same(share(4, ((3,) * 8,)), (1, 65536))
        self.same(share(2, ((0,),) * 40), (20, 1))
        dice = random.Random(13)
        for _ in range(100):
            marks = dice.randint(1, 4)
            rows = tuple([tuple([dice.randrange(marks) for _ in range(dice.randint(1, 8))]) for _ in range(6)])
            wanted = sum([Fraction(1, marks ** len(row)) for row in rows])
            self.same(share(marks, rows), (wanted.numerator, wanted.denominator))

    def test_is_full(self):
        self.same(is_full(2, ()), True)
        self.same(is_full(1, ((0, 0, 0),)), True)
        self.same(is_full(2, ((0,),)), False)
        self.same(is_full(3, ((0,), (1,), (2,))), True)
        self.same(is_full(3, ((0,), (1,), (2, 0), (2, 1))), False)
        self.same(is_full(3, ((0,), (1,), (2, 0), (2, 1), (2, 2))), True)
        # A row may be begun by another one; behind a row nothing is asked.
        self.same(is_full(2, ((0,), (0, 1), (1,))), True)
        self.same(is_full(2, ((0, 0, 1), (0, 0), (1,), (0, 1))), True)
        self.same(is_full(2, ((0, 0, 1), (1,), (0, 1))), False)
        long = tuple([(0,) * many + (1,) for many in range(8)]) + ((0,) * 8,)
        self.same(is_full(2, long), True)
        self.same(is_full(2, long[:-1]), False)

    def test_apart_rows_are_full_exactly_if_their_share_is_one(self):
        dice = random.Random(17)
        for _ in range(300):
            marks = dice.randint(1, 3)
            rows = tuple(dice.sample(all_rows(marks, 3), dice.randint(1, 3)))
            if clash_of(rows) is None:
                self.assertEqual(is_full(marks, rows), share(marks, rows) == (1, 1))

    def test_errors_from_left_to_right(self):
        self.fails(BadMachine, spelled, (), 9, None, None, index=None)
        self.fails(BadMarks, spelled, COIN, 9, None, None)
        self.fails(BadTable, spelled, COIN, 2, None, None, index=None)
        self.fails(BadLife, spelled, COIN, 2, COIN_TABLE, None)


if __name__ == "__main__":
    unittest.main()
