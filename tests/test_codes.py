"""Apart rows with the fewest turns, and loud tables (points 11, 12 and 13)."""

import random
import unittest
from itertools import combinations, product

from onelife.codes import (
    cheapest_rows, least_longest, least_price, least_price_in_order, least_price_within, loud_table, rows_for,
    shows_cheapest)
from onelife.errors import BadLengths, BadMachine, BadMarks, BadNumber, BadWeights, NoTable
from onelife.pairs import is_safe
from tests.oracles import all_rows, apart_lengths, are_apart, begins
from tests.tools import COIN, GAME, NO_KIND, Case

BAD_MARKS = (0, 5, -1, True, False, None, "2", (2,), [2], {}, 10 ** 30)
BAD_WEIGHTS = (None, (), [1], "", "1", {}, 5, True, (1,) * 13, (-1,), (1001,), (True,), (1, False), (None,), ("1",),
               (1, [2]), ((1,),), (10 ** 30,), ({},))


def price(weights, lengths):
    return sum([weight * length for weight, length in zip(weights, lengths)])


def random_weights(dice, many):
    return tuple([dice.choice((0, 0, 1, 1, 2, 3, 5, 8, dice.randint(0, 1000))) for _ in range(many)])


class LengthsTest(Case):
    def test_least_longest(self):
        self.same([least_longest(1, 1), least_longest(1, 2), least_longest(1, 40)], [1, None, None])
        self.same([least_longest(2, many) for many in (1, 2, 3, 4, 5, 8, 9, 32, 33, 40)],
                  [1, 1, 2, 2, 3, 3, 4, 5, 6, 6])
        self.same([least_longest(3, many) for many in (1, 3, 4, 9, 10, 27, 28, 40)], [1, 1, 2, 2, 3, 3, 4, 4])
        self.same([least_longest(4, many) for many in (1, 4, 5, 16, 17, 40)], [1, 1, 2, 2, 3, 3])

    def test_least_longest_errors(self):
        for marks in BAD_MARKS:
            self.fails(BadMarks, least_longest, marks, None)
        for many in (0, 41, -1, True, False, None, "1", (1,), [], {}, 10 ** 30):
            self.fails(BadNumber, least_longest, 2, many)

    def test_rows_for(self):
        self.same(rows_for(2, (1,)), ((0,),))
        self.same(rows_for(2, (2, 2, 1)), ((1, 0), (1, 1), (0,)))
        self.same(rows_for(2, (3, 1, 3, 2)), ((1, 1, 0), (0,), (1, 1, 1), (1, 0)))
        self.same(rows_for(3, (1, 2, 1)), ((0,), (2, 0), (1,)))
        self.same(rows_for(1, (12,)), ((0,) * 12,))
        self.same(rows_for(1, (1, 12)), None)
        self.same(rows_for(2, (1, 2, 2, 12)), None)
        self.same(rows_for(2, (12,) * 40)[39], (0,) * 6 + (1, 0, 0, 1, 1, 1))
        self.same(rows_for(4, (12,) + (1,) * 3), ((3,) + (0,) * 11, (0,), (1,), (2,)))

    def test_rows_for_by_the_words_of_the_document(self):
        dice = random.Random(79)
        none = 0
        for _ in range(200):
            marks = dice.randint(1, 3)
            lengths = tuple([dice.randint(1, 4) for _ in range(dice.randint(1, 6))])
            taken = {}
            for at in sorted(range(len(lengths)), key=lambda at: lengths[at]):
                rows = [row for row in product(range(marks), repeat=lengths[at])
                        if not any([begins(row, old) or begins(old, row) for old in taken.values()])]
                taken[at] = min(rows, default=None) or ("none",) * 9
            fits = sum([marks ** (4 - length) for length in lengths]) <= marks ** 4
            wanted = tuple([taken[at] for at in range(len(lengths))]) if fits else None
            self.assertEqual(fits, ("none",) * 9 not in taken.values())
            self.same(rows_for(marks, lengths), wanted)
            none += not fits
        self.assertTrue(20 < none < 180)

    def test_rows_for_errors(self):
        for marks in BAD_MARKS:
            self.fails(BadMarks, rows_for, marks, None)
        for lengths in (None, (), [1], "", "1", {}, 1, True, (1,) * 41, (0,), (13,), (1, -1), (True,), (1, False),
                        (None,), ("1",), ((1,),), (1, [2]), (10 ** 30,)):
            self.fails(BadLengths, rows_for, 2, lengths)


class PricesTest(Case):
    def test_fixed_prices(self):
        self.same([least_price(2, (7,)), least_price(4, (0,)), least_price(1, (1000,))], [7, 0, 1000])
        self.same([least_price(1, (1, 1)), least_price_within(1, (1, 1), 8), least_price_in_order(1, (0, 0))], [None] * 3)
        self.same([least_price(2, (0,) * 12), least_price(2, (1000,) * 12), least_price(4, (1000,) * 12)],
                  [0, 44000, 23000])
        self.same([least_price(3, (1, 1, 1, 1)), least_price(3, (9, 1, 1, 1)), least_price(2, (3, 2, 1))], [6, 14, 9])

    def test_least_price_against_all_lengths(self):
        dice = random.Random(83)
        for _ in range(150):
            marks, many = dice.randint(1, 4), dice.randint(1, 5)
            weights = random_weights(dice, many)
            prices = [price(weights, lengths) for lengths in apart_lengths(marks, many, max(1, many - 1))]
            self.same(least_price(marks, weights), min(prices, default=None))
            for most in (1, 2, 3, 4):
                prices = [price(weights, lengths) for lengths in apart_lengths(marks, many, most)]
                self.same(least_price_within(marks, weights, most), min(prices, default=None))

    def test_least_price_within(self):
        rising = (1, 1, 2, 3, 5, 8, 13, 21, 34, 55, 89, 144)
        self.same(least_price(2, rising), sum([weight * (12 - max(at, 1)) for at, weight in enumerate(rising)]))
        self.same([least_price_within(2, rising, most) for most in (1, 2, 3)], [None] * 3)
        found = [least_price_within(2, rising, most) for most in range(4, 9)]
        self.assertEqual(found, sorted(set(found), reverse=True))
        self.assertGreater(found[-1], least_price(2, rising))
        self.same(least_price_within(2, (1, 1, 2, 3, 5, 8, 13, 21, 34), 8), least_price(2, (1, 1, 2, 3, 5, 8, 13, 21, 34)))
        self.same([least_price_within(4, (1,) * 5, 1), least_price_within(4, (1,) * 4, 1)], [None, 4])
        self.same(least_price_within(1, (3,), 8), 3)

    def test_least_price_in_order(self):
        self.same([least_price_in_order(2, (1, 5, 1)), least_price(2, (1, 5, 1))], [13, 9])
        self.same([least_price_in_order(3, (1, 5, 1)), least_price_in_order(1, (4,))], [7, 4])
        self.same([least_price_in_order(2, (0,) * 12), least_price_in_order(4, (1000,) * 12)], [0, 23000])

    def test_least_price_in_order_against_all_ascending_rows(self):
        dice = random.Random(89)
        for marks, many in ((2, 2), (2, 3), (2, 4), (3, 3), (3, 4), (4, 3)):
            rows = sorted(all_rows(marks, many - 1))
            ascending = [[len(row) for row in chosen] for chosen in combinations(rows, many) if are_apart(chosen)]
            for _ in range(12):
                weights = random_weights(dice, many)
                self.same(least_price_in_order(marks, weights), min([price(weights, found) for found in ascending]))

    def test_in_order_is_no_cheaper(self):
        dice = random.Random(97)
        for _ in range(60):
            weights = random_weights(dice, dice.randint(1, 12))
            for marks in (2, 3, 4):
                least = least_price(marks, weights)
                self.assertGreaterEqual(least_price_in_order(marks, weights), least)
                # Equal lengths of one price may be put in order, so weights that fall have it in order, too.
                self.same(least_price_in_order(marks, tuple(sorted(weights))), least)

    def test_cheapest_rows(self):
        dice = random.Random(101)
        for _ in range(120):
            marks, many = dice.randint(1, 4), dice.randint(1, 12)
            weights = random_weights(dice, many)
            rows = cheapest_rows(marks, weights)
            self.same(shows_cheapest(marks, weights, rows), True)
            if marks == 1 and many > 1:
                self.assertIsNone(rows)
            else:
                self.assertTrue(are_apart(rows))
                self.assertEqual(price(weights, [len(row) for row in rows]), least_price(marks, weights))
                self.assertTrue(all([isinstance(row, tuple) and 0 <= min(row) <= max(row) < marks for row in rows]))

    def test_shows_cheapest(self):
        self.same(shows_cheapest(2, (3, 1), ((1,), (0,))), True)
        self.same(shows_cheapest(2, (3, 1), ((1,), (0, 0))), False)
        self.same(shows_cheapest(2, (3, 0), ((1,), (0, 0))), True)
        self.same(shows_cheapest(2, (3, 0), ((1, 0), (0,))), False)
        self.same(shows_cheapest(2, (3, 0), ((0,), (0, 1))), False)
        self.same(shows_cheapest(2, (3, 0), ((0,), (0,))), False)
        self.same(shows_cheapest(2, (3, 0), ((0,), (2,))), False)
        self.same(shows_cheapest(2, (3, 0), None), False)
        self.same(shows_cheapest(1, (3, 0), None), True)
        self.same(shows_cheapest(1, (3, 0), ((0,), (0, 0))), False)
        self.same(shows_cheapest(2, (1, 1, 1), ((0, 0), (1,), (0, 1))), True)

    def test_shows_cheapest_rows_of_forty_marks(self):
        self.same(shows_cheapest(2, (3, 0), ((1,), (0,) * 40)), True)
        self.same(shows_cheapest(2, (3, 0), ((1,), (0,) * 41)), False)
        self.same(shows_cheapest(1, (0,), ((0,) * 40,)), True)
        self.same(shows_cheapest(1, (0,), ((0,) * 41,)), False)

    def test_shows_cheapest_any_value(self):
        values = NO_KIND + [(), ((0,),), ((0,), (1,), (1,)), [(0,), (1,)], ((0,), [1]), ((0,), (True,)), ((False,), (1,)),
                            ((), (1,)), ((0,), ()), ((0,), ({},)), ((0,), ([],)), ((0,), None), (0, 1), ("0", "1")]
        for value in values:
            self.same(shows_cheapest(2, (3, 1), value), False)
            self.same(shows_cheapest(1, (3, 1), value), value is None)

    def test_errors(self):
        for function in (least_price, cheapest_rows, least_price_in_order):
            for marks in BAD_MARKS:
                self.fails(BadMarks, function, marks, None)
            for weights in BAD_WEIGHTS:
                self.fails(BadWeights, function, 2, weights)
        for function in (least_price_within, shows_cheapest):
            for marks in BAD_MARKS:
                self.fails(BadMarks, function, marks, None, None)
            for weights in BAD_WEIGHTS:
                self.fails(BadWeights, function, 2, weights, None)
        for most in (0, 9, -1, True, False, None, "1", (1,), [1], {}, 10 ** 30):
            self.fails(BadNumber, least_price_within, 1, (1, 1), most)


class LoudTableTest(Case):
    def test_loud_tables(self):
        self.same(loud_table(COIN, 2), (((0,), (1,)),))
        self.same(loud_table(GAME, 2), (((0, 0), (0, 1), (1, 0)), (), ((0,), (1,))))
        self.same(loud_table(GAME, 3), (((0,), (1,), (2,)), (), ((0,), (1,))))
        six = (tuple([(0, letter) for letter in "abcdef"]),)
        self.same(loud_table(six, 2), (((0, 0, 0), (0, 0, 1), (0, 1, 0), (0, 1, 1), (1, 0, 0), (1, 0, 1)),))
        self.same(loud_table(six, 4), (((0, 0), (0, 1), (0, 2), (0, 3), (1, 0), (1, 1)),))
        for marks in (2, 3, 4):
            self.same(is_safe(six, marks, loud_table(six, marks)), True)

    def test_one_mark(self):
        self.same(loud_table((((1, "a"),), ()), 1), (((0,),), ()))
        self.fails(NoTable, loud_table, COIN, 1)
        # Also if the state with two options never comes.
        self.fails(NoTable, loud_table, ((), ((0, "a"), (1, "b"))), 1)

    def test_errors(self):
        self.fails(BadMachine, loud_table, (), None, index=None)
        self.fails(BadMachine, loud_table, (((1, "a"),),), None, index=0)
        for marks in BAD_MARKS:
            self.fails(BadMarks, loud_table, COIN, marks)


if __name__ == "__main__":
    unittest.main()
