"""How many lots of apart rows there are (point 24)."""

import unittest
from itertools import product
from math import factorial

from onelife.errors import BadMarks, BadNumber, TooMany
from onelife.families import count_apart, count_full, every_apart
from onelife.tables import clash_of, is_full, share
from tests.oracles import all_rows, are_apart
from tests.tools import Case

ALL = (count_apart, count_full, every_apart)


def lots(marks, many, long):
    """All tuples of so many apart rows, ascending, of all tuples of rows."""
    return [rows for rows in product(sorted(all_rows(marks, long)), repeat=many) if are_apart(rows)]


def full(marks, rows):
    """Whether rows are full, by what each tuple of marks begins or is begun by."""
    longest = max(map(len, rows), default=0)
    return all([any([word[:len(row)] == row for row in rows]) for word in product(range(marks), repeat=longest)]) or not rows


class CountTest(Case):
    def test_known(self):
        self.same([count_apart(2, 2, 2), count_full(2, 2, 2), count_full(2, 3, 2), count_full(3, 3, 1)], [22, 2, 12, 6])
        self.same(every_apart(2, 2, 1), (((0,), (1,)), ((1,), (0,))))

    def test_no_rows(self):
        for marks in (1, 2, 3, 4):
            for long in (1, 8):
                self.same([count(marks, 0, long) for count in ALL], [1, 1, ((),)])

    def test_one_row(self):
        for marks, long, many in ((1, 1, 1), (1, 8, 8), (2, 1, 2), (2, 8, 510), (3, 3, 39), (4, 8, 87380)):
            self.same(count_apart(marks, 1, long), many)
        # A row alone is full only if there is but one mark.
        self.same([count_full(marks, 1, 8) for marks in (1, 2, 3, 4)], [8, 0, 0, 0])
        self.same([count_full(1, 1, long) for long in range(1, 9)], list(range(1, 9)))

    def test_one_mark(self):
        for many in range(2, 13):
            self.same([count(1, many, 8) for count in ALL], [0, 0, ()])
        self.same(every_apart(1, 1, 3), (((0,),), ((0, 0),), ((0, 0, 0),)))

    def test_more_rows_than_can_be_apart(self):
        self.same([count(2, 3, 1) for count in ALL], [0, 0, ()])
        self.same([count(2, 9, 3) for count in ALL], [0, 0, ()])
        self.same([count(3, 10, 2) for count in ALL], [0, 0, ()])
        self.same([count_apart(2, 8, 3), count_full(2, 8, 3)], [factorial(8)] * 2)
        self.same([count_apart(3, 3, 1), count_apart(3, 4, 1), count_apart(4, 4, 1)], [6, 0, 24])

    def test_twelve_rows(self):
        self.same([count_apart(2, 12, 3), count_full(2, 12, 3)], [0, 0])
        # Of two marks there are 58786 trees with twelve leaves, some of them with rows of more than eight marks.
        self.assertTrue(0 < count_full(2, 12, 8) < 58786 * factorial(12))
        # Each inner one of the trees of three marks adds two leaves, of four marks three.
        self.same([count_full(3, 12, 8), count_full(4, 12, 8), count_full(4, 4, 8)], [0, 0, 24])

    def test_trees(self):
        catalan = [1]
        for many in range(8):
            catalan.append(sum([catalan[at] * catalan[many - at] for at in range(many + 1)]))
        # So many rows can be at most one mark shorter in length than they are many, so that all trees are there.
        for many in range(2, 10):
            self.same(count_full(2, many, 8), factorial(many) * catalan[many - 1])
        for many, trees in ((3, 1), (5, 3), (7, 12), (9, 55), (11, 273)):
            self.same(count_full(3, many, 8), factorial(many) * trees)

    def test_against_all_tuples(self):
        for marks, many, long in ((1, 2, 3), (2, 1, 3), (2, 2, 3), (2, 3, 2), (2, 4, 2), (2, 3, 3), (3, 2, 2), (3, 3, 2), (4, 2, 2),
                                  (4, 3, 1), (4, 4, 1), (2, 5, 2), (2, 2, 4)):
            wanted = lots(marks, many, long)
            self.same(count_apart(marks, many, long), len(wanted))
            self.same(count_full(marks, many, long), len([rows for rows in wanted if full(marks, rows)]))
            if len(wanted) <= 2000:
                self.same(every_apart(marks, many, long), tuple(wanted))
            else:
                self.fails(TooMany, every_apart, marks, many, long, most=2000)

    def test_full_ones_take_up_all(self):
        for marks, many, long in ((2, 3, 3), (2, 4, 2), (3, 3, 2), (1, 1, 8), (4, 4, 1)):
            rows = every_apart(marks, many, long)
            self.same(len([lot for lot in rows if is_full(marks, lot)]), count_full(marks, many, long))
            self.same(len([lot for lot in rows if share(marks, lot) == (1, 1)]), count_full(marks, many, long))


class EveryTest(Case):
    def test_ascending_unlike_and_apart(self):
        for marks, many, long in ((2, 1, 8), (4, 1, 5), (2, 2, 4), (3, 3, 2), (4, 2, 2), (2, 3, 3), (4, 4, 1)):
            found = every_apart(marks, many, long)
            self.same(list(found), sorted(set(found)))
            self.same(len(found), count_apart(marks, many, long))
            self.assertTrue(all([clash_of(rows) is None and len(rows) == many for rows in found]))

    def test_2000_lots_and_more(self):
        numbers = {(marks, many, long): count_apart(marks, many, long)
                   for marks in (1, 2, 3, 4) for many in range(13) for long in range(1, 9)}
        # No number of lots is just 2000; these are the nearest ones.
        below = max([number for number in numbers.values() if number <= 2000])
        above = min([number for number in numbers.values() if number > 2000])
        self.same((below, above), (1364, 3279))
        for family, number in numbers.items():
            if number == below:
                self.same(len(every_apart(*family)), below)
            elif number > 2000:
                self.fails(TooMany, every_apart, *family, most=2000)


class ErrorsTest(Case):
    def test_errors_from_left_to_right(self):
        for count in ALL:
            for value in (None, True, 0, 5, -1, "2", [2], (2,), {}):
                self.fails(BadMarks, count, value, None, None)
            for value in (None, True, False, -1, 13, 10 ** 30, "1", [1], (), {}):
                self.fails(BadNumber, count, 2, value, 1)
                self.fails(BadNumber, count, 2, value, None)
            for value in (None, True, False, 0, -1, 9, 10 ** 30, "1", [1], (), {}):
                self.fails(BadNumber, count, 2, 1, value)


if __name__ == "__main__":
    unittest.main()
