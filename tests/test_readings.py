"""What the wheel alone tells (point 22)."""

import random
from itertools import product
import unittest

from onelife.errors import BadMachine, BadMarks, BadSpelled, BadTable, TooMany
from onelife.pairs import is_safe, parting
from onelife.readings import lives_at, marks_next, places_at, told_at
from onelife.tables import spelled as marks_of
from tests.oracles import along, begins, follow
from tests.tools import COIN, COIN_TABLE, GAME, GAME_TABLE, NO_KIND, SAME_TABLE, Case, in_a_row, settings

ALL = (lives_at, places_at, marks_next, told_at)
MIXED_TABLE = (((0,), (1, 0)),)


def ways_within(machine, table, most):
    """Each way of at most so many marks, with the marks that it spells, found life by life."""
    found, waiting = [(((), 0), ())], [()]
    while waiting:
        life = waiting.pop()
        state, marks, _ = follow(machine, table, life)
        for option, row in enumerate(table[state]):
            for done in range(1, len(row) + 1):
                if len(marks) + done <= most:
                    found.append(((life + (option,), done), marks + row[:done]))
            if len(marks) + len(row) <= most:
                waiting.append(life + (option,))
    return found


def place_of(machine, table, way):
    life, done = way
    if not life:
        return 0, None, 0
    state = follow(machine, table, life[:-1])[0]
    if done == len(table[state][life[-1]]):
        return machine[state][life[-1]][0], None, 0
    return state, life[-1], done


def told(machine, table, row, ways):
    """What told_at is, by each two tellings of lives that spell a beginning of a row."""
    lives = [life for (life, done), marks in ways
             if begins(marks, row) and (not life or done == len(table[follow(machine, table, life[:-1])[0]][life[-1]]))]
    tellings = [follow(machine, table, life)[2] for life in lives]
    if not all([along(one, other) for one in tellings for other in tellings]):
        return None
    return max(tellings, key=len)


class WaysTest(Case):
    def test_no_marks(self):
        self.same(lives_at(COIN, 2, COIN_TABLE, ()), (((), 0),))
        self.same(places_at(COIN, 2, COIN_TABLE, ()), ((0, None, 0),))
        self.same(marks_next(COIN, 2, COIN_TABLE, ()), (0, 1))
        self.same(told_at(COIN, 2, COIN_TABLE, ()), ())
        end = ((),)
        self.same([read(end, 1, end, ()) for read in ALL], [(((), 0),), ((0, None, 0),), (), ()])
        self.same([read(end, 1, end, (0,)) for read in ALL], [(), (), (), ()])

    def test_a_row_wholly_done_and_one_begun(self):
        self.same(lives_at(COIN, 2, MIXED_TABLE, (0, 1)), (((0, 1), 1),))
        self.same(places_at(COIN, 2, MIXED_TABLE, (0, 1)), ((0, 1, 1),))
        self.same(lives_at(COIN, 2, MIXED_TABLE, (0, 1, 0)), (((0, 1), 2),))
        self.same(places_at(COIN, 2, MIXED_TABLE, (0, 1, 0)), ((0, None, 0),))
        self.same([marks_next(COIN, 2, MIXED_TABLE, row) for row in ((0, 1), (0, 1, 0), (1, 1))], [(0,), (0, 1), ()])
        self.same([told_at(COIN, 2, MIXED_TABLE, row) for row in ((0, 1), (0, 1, 0), (0, 1, 1), (1,))],
                  [((1, "yes"),), ((1, "yes"), (3, "no")), ((1, "yes"),), ()])

    def test_one_wholly_done_where_another_is_begun(self):
        table = (((0,), (0, 0)),)
        self.same(lives_at(COIN, 1, table, (0,)), (((0,), 1), ((1,), 1)))
        self.same(places_at(COIN, 1, table, (0,)), ((0, None, 0), (0, 1, 1)))
        self.same(lives_at(COIN, 1, table, (0, 0)), (((0, 0), 1), ((0, 1), 1), ((1,), 2)))
        self.same(places_at(COIN, 1, table, (0, 0)), ((0, None, 0), (0, 1, 1)))
        self.same(told_at(COIN, 1, table, (0,)), ((1, "yes"),))
        self.same(told_at(COIN, 1, table, (0, 0)), None)

    def test_places_ascend_with_none_first(self):
        machine = (((1, None), (0, None), (2, None)), ((0, None),), ())
        table = (((0, 0), (0,), (0, 0)), ((0,),), ())
        self.same(places_at(machine, 1, table, (0,)), ((0, None, 0), (0, 0, 1), (0, 2, 1)))
        self.same(places_at(machine, 1, table, (0, 0)),
                  ((0, None, 0), (0, 0, 1), (0, 2, 1), (1, None, 0), (2, None, 0)))

    def test_game(self):
        self.same(lives_at(GAME, 2, GAME_TABLE, (0,)), (((0,), 1), ((2,), 1)))
        self.same(lives_at(GAME, 2, GAME_TABLE, (0, 1, 1)), (((0, 1), 1),))
        self.same(places_at(GAME, 2, GAME_TABLE, (0, 1, 1)), ((1, None, 0),))
        self.same([marks_next(GAME, 2, GAME_TABLE, row) for row in ((0,), (0, 1), (0, 1, 1))], [(0, 1), (0, 1), ()])
        self.same(told_at(GAME, 2, GAME_TABLE, (0, 1, 1, 0, 0)), ((2, "on"), (3, "end")))

    def test_against_lives_one_by_one(self):
        none = some = 0
        for machine, marks, table in settings(221, 120, states=3, options=3, longest=3):
            ways = ways_within(machine, table, 6)
            for length in range(6):
                for row in product(range(marks), repeat=length):
                    here = sorted([way for way, spelled in ways if spelled == row])
                    places = {place_of(machine, table, way) for way in here}
                    known = sorted(places, key=lambda place: (place[0], -1 if place[1] is None else place[1], place[2]))
                    on = sorted({spelled[-1] for _, spelled in ways if len(spelled) > length and spelled[:-1] == row})
                    wanted = told(machine, table, row, ways)
                    self.same([read(machine, marks, table, row) for read in ALL],
                              [tuple(here), tuple(known), tuple(on), wanted])
                    none += wanted is None
                    some += bool(wanted)
        self.assertGreater(none, 100)
        self.assertGreater(some, 100)

    def test_forty_marks_and_more(self):
        row = (0, 1) * 20
        self.same(lives_at(COIN, 2, COIN_TABLE, row), ((row, 1),))
        self.same(len(told_at(COIN, 2, COIN_TABLE, row)), 40)
        self.same(marks_next(COIN, 2, COIN_TABLE, row), (0, 1))
        for read in ALL:
            self.fails(BadSpelled, read, COIN, 2, COIN_TABLE, row + (0,))


class ManyWaysTest(Case):
    def test_2000_ways(self):
        machine, table = in_a_row([(5, 1), (5, 1), (5, 1), (4, 1), (4, 1)])
        self.same(len(lives_at(machine, 1, table, (0,) * 5)), 2000)
        self.same(places_at(machine, 1, table, (0,) * 5), ((5, None, 0),))
        self.same(marks_next(machine, 1, table, (0,) * 5), ())
        self.same(told_at(machine, 1, table, (0,) * 5), ())

    def test_2001_ways(self):
        # Five options lead to 400 ways each, the sixth one to a single way.
        machine = (((1, None),) * 5 + ((5, None),), ((2, None),) * 5, ((3, None),) * 5, ((4, None),) * 4, ((9, None),) * 4,
                   ((6, None),), ((7, None),), ((8, None),), ((9, None),), ())
        table = tuple([((0,),) * len(state) for state in machine])
        self.same(len(lives_at(machine, 1, table, (0,) * 4)), 501)
        for read in ALL:
            self.fails(TooMany, read, machine, 1, table, (0,) * 5, most=2000)
            # No way goes on from there, but behind a beginning there are too many.
            self.fails(TooMany, read, machine, 1, table, (0,) * 6, most=2000)
            self.assertIsNotNone(read(machine, 1, table, (0,) * 4))

    def test_ways_of_rows_that_are_only_begun(self):
        machine, table = in_a_row([(6, 2), (6, 2), (6, 2), (6, 2), (6, 2)])
        self.same(len(lives_at(machine, 1, table, (0,) * 8)), 1296)
        # A row begun is a way, too: 7776 of them.
        for read in ALL:
            self.fails(TooMany, read, machine, 1, table, (0,) * 9, most=2000)

    def test_too_many_ways_come_ahead_of_two_tellings(self):
        table = (((0,), (0,)),)
        self.same(told_at(COIN, 1, table, (0,) * 10), None)
        self.same(len(lives_at(COIN, 1, table, (0,) * 10)), 1024)
        self.fails(TooMany, told_at, COIN, 1, table, (0,) * 11, most=2000)


class ToldTest(Case):
    def test_tellings_of_which_neither_begins_the_other(self):
        self.same(told_at(COIN, 1, SAME_TABLE, ()), ())
        self.same(told_at(COIN, 1, SAME_TABLE, (0,)), None)
        # The lives whose tellings don't go together spell marks of which those of one begin those of the other.
        machine = (((1, "a"), (2, None)), (), ((1, "b"),))
        self.same([told_at(machine, 2, (((0,), (0,)), (), ((1,),)), row) for row in ((0,), (0, 1), (0, 0))],
                  [((1, "a"),), None, ((1, "a"),)])

    def test_as_safe_tables_and_lives_that_part_say(self):
        torn = 0
        for machine, marks, table in settings(222, 200, states=3, options=2, longest=3):
            safe = is_safe(machine, marks, table)
            if safe:
                for length in range(6):
                    for row in product(range(marks), repeat=length):
                        self.assertIsNotNone(told_at(machine, marks, table, row))
            else:
                one, other = parting(machine, marks, table)
                row = max(marks_of(machine, marks, table, one), marks_of(machine, marks, table, other), key=len)
                self.same(told_at(machine, marks, table, row), None)
                torn += 1
        self.assertGreater(torn, 20)

    def test_what_was_told_is_the_longest_telling(self):
        dice = random.Random(223)
        for machine, marks, table in settings(224, 100, options=2, longest=3):
            life = []
            for _ in range(5):
                state = follow(machine, table, life)[0]
                if machine[state]:
                    life.append(dice.randrange(len(machine[state])))
            if is_safe(machine, marks, table):
                _, row, telling = follow(machine, table, life)
                self.assertTrue(begins(telling, told_at(machine, marks, table, row)))


class ErrorsTest(Case):
    def test_no_spelled(self):
        for value in NO_KIND + [(0, 2), (0, -1), (0, True), [0, 1], (0, None), (0,) * 41, ((0,),), "01", 1]:
            if value == ():
                continue
            for read in ALL:
                self.fails(BadSpelled, read, COIN, 2, COIN_TABLE, value)
        self.fails(BadSpelled, lives_at, COIN, 1, SAME_TABLE, (1,))
        self.same(lives_at(COIN, 2, COIN_TABLE, (1,)), (((1,), 1),))

    def test_errors_from_left_to_right(self):
        for read in ALL:
            self.fails(BadMachine, read, None, 0, None, None, index=None)
            self.fails(BadMarks, read, COIN, 0, None, None)
            self.fails(BadTable, read, COIN, 2, None, None, index=None)
            self.fails(BadSpelled, read, COIN, 2, COIN_TABLE, None)


if __name__ == "__main__":
    unittest.main()
