"""What several tests use: machines, the kinds of arguments with wrong values for each, and a test case."""

import random
import unittest

from onelife import errors

COIN = (((0, "yes"), (0, "no")),)
COIN_TABLE = (((0,), (1,)),)
SAME_TABLE = (((0,), (0,)),)
BIRTH = (0, None, (), 0)

# A game that goes on or ends; state 2 comes never.
GAME = (((0, "on"), (1, "end"), (0, None)), (), ((2, "never"), (0, None)))
GAME_TABLE = (((0, 1), (1,), (0, 0)), (), ((1,), (1, 0)))

NO_KIND = [None, True, False, 1.5, -1, 10 ** 30, "", "a", "yes", [], {}, [()], {"a": 1}, {(): ()}, [[1], 2], (None,),
           (True,), ((),) * 41, ("a", "b"), ([],), ({},), (((),),), (((((),),),),), (-1,), (10 ** 30,), ((0,), [0])]


class Case(unittest.TestCase):
    """A test case that can ask which error a call raises, of just which class and with which fields."""

    def fails(self, error, function, *arguments, **fields):
        with self.assertRaises(errors.LifeError) as caught:
            function(*arguments)
        self.assertEqual(type(caught.exception).__name__, error.__name__, arguments)
        self.assertEqual(vars(caught.exception), fields, arguments)

    def same(self, found, wanted):
        """Equal, and of the same kinds throughout, since to Python True equals 1 and a list may stand for a tuple."""
        self.assertEqual(repr(found), repr(wanted))


def random_setting(dice, states=3, options=3, marks=2, longest=2, words=("a", "b", None)):
    """A machine, its number of marks and a table of it."""
    many = dice.randint(1, states)
    machine = tuple([
        tuple([(dice.randrange(many), dice.choice(words)) for _ in range(dice.randint(0, options))])
        for _ in range(many)])
    number = dice.randint(1, marks)
    return machine, number, random_table(dice, machine, number, longest)


def random_table(dice, machine, marks, longest):
    return tuple([
        tuple([tuple([dice.randrange(marks) for _ in range(dice.randint(1, longest))]) for _ in state])
        for state in machine])


def settings(seed, many, **limits):
    """So many machines with marks and tables, the same ones for the same seed."""
    dice = random.Random(seed)
    return [random_setting(dice, **limits) for _ in range(many)]


def in_a_row(sizes):
    """A silent machine of states one behind another, and its table: for each size (options, marks of each row)."""
    machine = tuple([((at + 1, None),) * options for at, (options, _) in enumerate(sizes)]) + ((),)
    table = tuple([((0,) * length,) * options for options, length in sizes]) + ((),)
    return machine, table
