"""The safe tables with the shortest rows (point 13)."""

import random
import unittest
from itertools import product

from onelife.errors import BadMachine, BadMarks, BadNumber, TooMany
from onelife.pairs import is_safe
from onelife.searches import least_table, shows_least_table
from tests.oracles import all_rows, least_paper
from tests.tools import COIN, COIN_TABLE, NO_KIND, SAME_TABLE, Case, random_setting


def every_table(machine, marks, most):
    """All tables with rows of at most so many marks."""
    states = [list(product(all_rows(marks, most), repeat=len(state))) for state in machine]
    return [tuple(table) for table in product(*states)]


def size(table):
    lengths = [len(row) for rows in table for row in rows]
    return max(lengths, default=0), sum(lengths)


class LeastTableTest(Case):
    def test_coin(self):
        self.same(least_table(COIN, 1, 1), None)
        self.same(least_table(COIN, 1, 3), None)
        self.same(shows_least_table(COIN, 1, 3, None), True)
        self.same(size(least_table(COIN, 2, 3)), (1, 2))
        for table in (COIN_TABLE, (((1,), (0,)),)):
            self.same(shows_least_table(COIN, 2, 3, table), True)
        for table in (SAME_TABLE, (((0, 1), (1,)),), None, (((0,), (2,)),)):
            self.same(shows_least_table(COIN, 2, 3, table), False)

    def test_shortest_longest_row_goes_first(self):
        machine = (((1, "a"), (1, "b"), (1, "c")), ())
        table = least_table(machine, 2, 2)
        self.same(size(table), (2, 5))
        self.same(shows_least_table(machine, 2, 2, (((1, 0), (1, 1), (0,)), ())), True)
        self.same(shows_least_table(machine, 2, 2, (((1, 0), (1, 1), (0, 0)), ())), False)
        self.same(least_table(machine, 2, 1), None)
        four = (((1, "a"), (1, "b"), (1, "c"), (1, "d")), ())
        # Rows of 1, 2, 3 and 3 marks have a sum of 9, but rows of 2 marks are shorter.
        self.fails(TooMany, least_table, four, 2, 3, most=4000)
        self.same(size(least_table(four, 2, 2)), (2, 8))

    def test_shortest_longest_row_though_the_sum_is_more(self):
        # By one mark both ways to state 5 are as long only if they spell at least four marks.
        machine = (((1, None), (2, None)), ((5, "a"), (5, "a")), ((3, None),), ((4, None),), ((5, "a"),), ())
        lesser_sum = (((0, 0, 0), (0,)), ((0,), (0,)), ((0,),), ((0,),), ((0,),), ())
        shorter = (((0, 0), (0,)), ((0, 0), (0, 0)), ((0,),), ((0,),), ((0,),), ())
        self.same([is_safe(machine, 1, table) for table in (lesser_sum, shorter)], [True, True])
        self.same([size(lesser_sum), size(shorter), size(least_table(machine, 1, 3))], [(3, 9), (2, 10), (2, 10)])
        self.same([shows_least_table(machine, 1, 3, table) for table in (lesser_sum, shorter)], [False, True])

    def test_rows_that_are_not_apart_may_be_safe(self):
        machine = (((1, "a"), (1, "a")), ())
        self.same(size(least_table(machine, 1, 2)), (1, 2))
        self.same(least_table((((0, None), (0, None)),), 1, 1), (((0,), (0,)),))

    def test_no_options_and_states_that_never_come(self):
        self.same(least_table(((),), 1, 1), ((),))
        self.same(shows_least_table(((), ()), 4, 3, ((), ())), True)
        self.same(shows_least_table(((), ()), 4, 3, ((),)), False)
        machine = ((), ((0, "a"), (0, "b")))
        self.same(size(least_table(machine, 2, 3)), (1, 2))
        self.same(shows_least_table(machine, 2, 3, ((), ((1,), (1,)))), True)
        self.same(shows_least_table(machine, 2, 3, ((), ((1,), (1, 1)))), False)

    def test_against_all_tables(self):
        dice = random.Random(103)
        found = 0
        while found < 60:
            machine, marks, _ = random_setting(dice, states=3, options=2, marks=3)
            most = dice.randint(1, 3)
            tables = every_table(machine, marks, most) if sum(map(len, machine)) < 4 else None
            if tables is None or len(tables) > 400:
                continue
            found += 1
            safe = [table for table in tables if least_paper(machine, table) is not None]
            least = min([size(table) for table in safe], default=None)
            chosen = least_table(machine, marks, most)
            self.assertEqual(None if chosen is None else size(chosen), least)
            self.assertTrue(chosen is None or chosen in safe)
            self.same(shows_least_table(machine, marks, most, chosen), True)
            self.same(shows_least_table(machine, marks, most, None), least is None)
            for table in dice.sample(tables, min(12, len(tables))):
                self.same(shows_least_table(machine, marks, most, table), table in safe and size(table) == least)

    def test_four_thousand_tables_and_more(self):
        def machine(options):
            return tuple([((0, "a"),)] * options)
        for marks, most, options in ((2, 1, 11), (1, 2, 11), (1, 3, 7), (2, 2, 4), (2, 3, 3), (3, 3, 2), (4, 3, 1)):
            self.same(size(least_table(machine(options), marks, most)), (1, options))
            self.same(shows_least_table(machine(options), marks, most, None), False)
            self.fails(TooMany, least_table, machine(options + 1), marks, most, most=4000)
            self.fails(TooMany, shows_least_table, machine(options + 1), marks, most, None, most=4000)
        # With one row there is one table, however many options there are.
        large = (((0, "a"),) * 6,) * 40
        self.same(size(least_table(large, 1, 1)), (1, 240))

    def test_many_tables_without_a_safe_one(self):
        machine = (tuple([(0, letter) for letter in "abcdef"]), tuple([(0, letter) for letter in "abcde"]))
        self.same(least_table(machine, 2, 1), None)
        self.same(shows_least_table(machine, 2, 1, None), True)

    def test_any_value(self):
        values = NO_KIND + [[((0,), (1,))], ([(0,), (1,)],), (((0,), [1]),), (((0,), (True,)),), (((False,), (1,)),), (),
                            (((0,), (1,)), ()), (((0,), ()),), (((0,), (1,), (1,)),), (((0,), ({},)),)]
        for value in values:
            self.same(shows_least_table(COIN, 2, 2, value), False)
            self.same(shows_least_table(COIN, 1, 2, value), value is None)

    def test_answers_are_safe(self):
        machine = (((1, "a"), (0, None)), ((0, "b"), (1, None)))
        for marks, most in ((2, 2), (3, 1), (4, 1)):
            self.same(is_safe(machine, marks, least_table(machine, marks, most)), True)

    def test_errors_from_left_to_right(self):
        large = (((0, "a"),) * 6,) * 40
        self.fails(BadMachine, least_table, (), None, None, index=None)
        self.fails(BadMarks, least_table, large, True, None)
        for most in (0, 4, -1, True, False, None, "1", (1,), [1], {}, 10 ** 30):
            self.fails(BadNumber, least_table, large, 2, most)
            self.fails(BadNumber, shows_least_table, large, 2, most, None)
        self.fails(BadMachine, shows_least_table, (None,), None, None, None, index=0)
        self.fails(BadMarks, shows_least_table, COIN, 5, None, None)


if __name__ == "__main__":
    unittest.main()
