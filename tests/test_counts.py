"""How many lives there are, what they cost, and their numbers (point 23)."""

import random
import unittest
from math import comb

from onelife.counts import count_lives, count_spelled, fewest_turns, life_number, most_turns, nth_life
from onelife.errors import BadLife, BadMachine, BadMarks, BadNumber, BadTable
from onelife.machines import is_loud
from tests.oracles import follow
from tests.tools import COIN, COIN_TABLE, GAME, GAME_TABLE, Case, in_a_row, settings

MIXED_TABLE = (((0,), (1, 0)),)
END = ((),)


def lives_of(machine, options):
    """All lives of exactly so many options, ascending."""
    lives = [((), 0)]
    for _ in range(options):
        lives = [(life + (option,), target) for life, state in lives for option, (target, _) in enumerate(machine[state])]
    return [life for life, _ in lives]


def turns_of(machine, table, life):
    return len(follow(machine, table, life)[1])


class CountTest(Case):
    def test_lives(self):
        self.same([count_lives(COIN, options) for options in (0, 1, 2, 10, 64)], [1, 2, 4, 1024, 2 ** 64])
        self.same(count_lives(COIN, 2000), 2 ** 2000)
        six = (((0, None),) * 6,)
        self.same([count_lives(six, options) for options in (41, 2000)], [6 ** 41, 6 ** 2000])

    def test_machines_that_come_to_an_end(self):
        self.same([count_lives(END, options) for options in (0, 1, 2000)], [1, 0, 0])
        machine, _ = in_a_row([(2, 1), (3, 1), (6, 1)])
        self.same([count_lives(machine, options) for options in range(6)], [1, 2, 6, 36, 0, 0])
        self.same(count_lives(machine, 2000), 0)
        # At each step two of three options go on.
        self.same([count_lives(GAME, options) for options in range(5)], [1, 3, 6, 12, 24])
        self.same(count_lives(GAME, 2000), 3 * 2 ** 1999)

    def test_states_that_never_come_do_not_count(self):
        machine = (((0, "a"),), ((0, "b"), (1, "c")))
        self.same([count_lives(machine, options) for options in (0, 1, 2000)], [1, 1, 1])
        self.same(most_turns(machine, 1, (((0,),), ((0,) * 8, (0,) * 8)), 2000), 2000)

    def test_spelled(self):
        self.same([count_spelled(COIN, 2, MIXED_TABLE, turns) for turns in range(8)], [1, 1, 2, 3, 5, 8, 13, 21])
        self.same([count_spelled(COIN, 2, COIN_TABLE, turns) for turns in (0, 1, 2000)], [1, 2, 2 ** 2000])
        fibonacci = [1, 1]
        while len(fibonacci) < 2001:
            fibonacci.append(fibonacci[-1] + fibonacci[-2])
        self.same(count_spelled(COIN, 2, MIXED_TABLE, 2000), fibonacci[2000])
        self.same([count_spelled(END, 1, END, turns) for turns in (0, 1, 2000)], [1, 0, 0])

    def test_rows_of_eight_marks(self):
        table = (((0,) * 8, (1,) * 8),)
        self.same([count_spelled(COIN, 2, table, turns) for turns in (0, 1, 7, 8, 9, 16, 17, 2000)],
                  [1, 0, 0, 2, 0, 4, 0, 2 ** 250])
        mixed = (((0,) * 8, (1,)),)
        # So many rows of eight marks in 40 turns, and the others of one mark.
        wanted = sum([comb(40 - 7 * many, many) for many in range(6)])
        self.same(count_spelled(COIN, 2, mixed, 40), wanted)

    def test_turns(self):
        self.same([fewest_turns(COIN, 2, MIXED_TABLE, 7), most_turns(COIN, 2, MIXED_TABLE, 7)], [7, 14])
        self.same([fewest_turns(COIN, 2, MIXED_TABLE, 2000), most_turns(COIN, 2, MIXED_TABLE, 2000)], [2000, 4000])
        self.same([fewest_turns(COIN, 2, MIXED_TABLE, 0), most_turns(COIN, 2, MIXED_TABLE, 0)], [0, 0])
        self.same([fewest_turns(END, 2, END, 0), fewest_turns(END, 2, END, 1), most_turns(END, 2, END, 1)], [0, None, None])
        machine, table = in_a_row([(2, 3), (1, 5)])
        for turns in (fewest_turns, most_turns):
            self.same([turns(machine, 1, table, options) for options in (0, 1, 2, 3, 2000)], [0, 3, 8, None, None])
        # Now the option that costs more leads to where all costs less.
        machine = (((0, None), (1, None)), ((1, None),))
        table = (((0, 0), (1,) * 8), ((1,),))
        self.same([fewest_turns(machine, 2, table, options) for options in (1, 2, 7, 8, 20)], [2, 4, 14, 15, 27])
        self.same([most_turns(machine, 2, table, options) for options in (1, 2, 3, 20)], [8, 10, 12, 46])

    def test_against_all_lives(self):
        for machine, marks, table in settings(231, 100, states=3, options=3, longest=3):
            turns = {}
            for options in range(6):
                lives = lives_of(machine, options)
                costs = [turns_of(machine, table, life) for life in lives]
                self.same(count_lives(machine, options), len(lives))
                self.same(fewest_turns(machine, marks, table, options), min(costs, default=None))
                self.same(most_turns(machine, marks, table, options), max(costs, default=None))
                for many in costs:
                    turns[many] = turns.get(many, 0) + 1
            # Of so few marks no life has more options.
            for many in range(6):
                self.same(count_spelled(machine, marks, table, many), turns.get(many, 0))


class NumberTest(Case):
    def test_known(self):
        self.same(life_number(COIN, (1, 0, 1)), 5)
        self.same(nth_life(COIN, 3, 5), (1, 0, 1))
        self.same([life_number(COIN, (0,) * 40), life_number(COIN, (1,) * 40)], [0, 2 ** 40 - 1])
        self.same([nth_life(COIN, 40, 0), nth_life(COIN, 40, 2 ** 40 - 1)], [(0,) * 40, (1,) * 40])
        # Lives that come to an end are too short to be counted.
        self.same([life_number(GAME, life) for life in ((0, 0), (0, 1), (0, 2), (2, 0), (2, 2))], [0, 1, 2, 3, 5])
        self.same([nth_life(GAME, 2, number) for number in range(6)], [(0, 0), (0, 1), (0, 2), (2, 0), (2, 1), (2, 2)])

    def test_without_options(self):
        for machine in (COIN, GAME, END):
            self.same(life_number(machine, ()), 0)
            self.same(nth_life(machine, 0, 0), ())
            self.fails(BadNumber, nth_life, machine, 0, 1)

    def test_numbers_that_no_life_has(self):
        self.fails(BadNumber, nth_life, COIN, 3, 8)
        self.fails(BadNumber, nth_life, COIN, 40, 2 ** 40)
        self.fails(BadNumber, nth_life, END, 1, 0)
        machine, _ = in_a_row([(2, 1), (3, 1)])
        self.same(nth_life(machine, 2, 5), (1, 2))
        self.fails(BadNumber, nth_life, machine, 2, 6)
        for number in (0, 1):
            self.fails(BadNumber, nth_life, machine, 3, number)

    def test_each_life_has_its_number(self):
        for machine, _, _ in settings(232, 80, states=3, options=3):
            for options in range(6):
                lives = lives_of(machine, options)
                for number, life in enumerate(lives):
                    self.same(life_number(machine, life), number)
                    self.same(nth_life(machine, options, number), life)
                self.fails(BadNumber, nth_life, machine, options, len(lives))

    def test_long_lives(self):
        dice = random.Random(233)
        for machine, _, _ in settings(234, 60, states=6, options=6):
            many = count_lives(machine, 40)
            if many > 0:
                for number in (0, many - 1, dice.randrange(many)):
                    self.same(life_number(machine, nth_life(machine, 40, number)), number)
            self.fails(BadNumber, nth_life, machine, 40, many)


class ErrorsTest(Case):
    def test_numbers(self):
        for value in (None, True, False, -1, 2001, 10 ** 30, "1", [], (), (1,), {}):
            self.fails(BadNumber, count_lives, COIN, value)
            for count in (count_spelled, fewest_turns, most_turns):
                self.fails(BadNumber, count, COIN, 2, COIN_TABLE, value)
            self.fails(BadNumber, nth_life, COIN, value, 0)
            self.fails(BadNumber, nth_life, COIN, 3, value)
        self.fails(BadNumber, nth_life, COIN, 41, 0)
        self.fails(BadNumber, nth_life, COIN, None, None)

    def test_no_life(self):
        for value in (None, [0], (2,), (True,), (-1,), (0,) * 41, 0, "0", {}):
            self.fails(BadLife, life_number, COIN, value)
        self.fails(BadLife, life_number, GAME, (1, 0))

    def test_errors_from_left_to_right(self):
        for count in (count_spelled, fewest_turns, most_turns):
            self.fails(BadMachine, count, None, 0, None, None, index=None)
            self.fails(BadMarks, count, COIN, 0, None, None)
            self.fails(BadTable, count, COIN, 2, None, None, index=None)
            self.fails(BadTable, count, GAME, 2, GAME_TABLE[:1] + (((0,),),) + GAME_TABLE[2:], None, index=1)
        for count in (count_lives, life_number):
            self.fails(BadMachine, count, (), None, index=None)
        self.fails(BadMachine, nth_life, ((None,),), None, None, index=0)

    def test_words_do_not_count(self):
        silent = tuple([tuple([(target, None) for target, _ in state]) for state in GAME])
        self.assertFalse(is_loud(silent))
        self.same(count_lives(silent, 7), count_lives(GAME, 7))


if __name__ == "__main__":
    unittest.main()
