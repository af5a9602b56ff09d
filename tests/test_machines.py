"""Machines and lives (point 2)."""

import unittest
from itertools import product

from onelife.errors import BadLife, BadMachine, BadNumber, TooMany
from onelife.machines import can_come, end_of, is_loud, lives, words_of
from tests.oracles import states_from
from tests.tools import COIN, GAME, Case, settings


def levels(fan, deep, first, end):
    """States one behind another from the state first on, each with so many options, the last ones leading to end."""
    return [((first + at + 1 if at + 1 < deep else end, None),) * fan for at in range(deep)]


def many_lives(more):
    """A machine with 5000 lives of at most 7 options, and one more for each option more of its first state."""
    five, three = levels(5, 5, 2, 1), levels(3, 6, 7, 1)
    return (((2, None), (7, None)) + ((1, None),) * more, (), *five, *three)


class MachinesTest(Case):
    def test_end_and_words(self):
        machine = (((1, "go"), (2, None)), ((0, "back"), (1, None)), ())
        self.assertEqual([end_of(machine, life) for life in ((), (0,), (1,), (0, 1, 1, 0, 1))], [0, 1, 2, 2])
        self.same(words_of(machine, (0, 1, 0, 1)), ("go", "back"))
        self.same(words_of(machine, ()), ())
        self.same(words_of(machine, (1,)), ())

    def test_largest_machine(self):
        options = tuple([(at * 7, letter * 8) for at, letter in enumerate("abcdef")])
        machine = (options,) * 40
        self.assertEqual(end_of(machine, (5,) * 40), 35)
        self.assertEqual(words_of(machine, (2,) * 40), ("cccccccc",) * 40)
        self.assertEqual(can_come(machine), (0, 7, 14, 21, 28, 35))
        self.fails(BadMachine, end_of, machine + (options,), (), index=None)
        self.fails(BadMachine, end_of, ((),) * 17 + (((0, "a"),) * 7,), (), index=17)

    def test_no_machine(self):
        for value in ((), [((),)], {0: ()}, "", "a", None, True, 0, ((),) * 41):
            self.fails(BadMachine, can_come, value, index=None)
        states = [None, [], "", {}, 0, True, ((0, "a"),) * 7, ((0,),), ((0, "a", 1),), ([0, "a"],), ((4, "a"),),
                  ((-1, "a"),), ((False, "a"),), ((None, "a"),), ((0, ""),), ((0, "a" * 9),), ((0, "A"),), ((0, "a b"),),
                  ((0, "\u00e9"),), ((0, "\u0430"),), ((0, 0),), ((0, False),), ((0, ("a",)),), ((0, "a"), (0, "`")),
                  ((0, "{"),), "aa", ("aa",), (("0", "a"),), ((10 ** 30, "a"),), ((0, "a\n"),)]
        for state in states:
            self.fails(BadMachine, can_come, (state,), index=0)
            self.fails(BadMachine, end_of, (((0, "a"),), (), state, state), None, index=2)

    def test_words_of_one_and_of_eight_letters(self):
        self.assertEqual(words_of((((0, "a"), (0, "abcdefgz")),), (0, 1)), ("a", "abcdefgz"))

    def test_life_of_forty_options(self):
        self.assertEqual(end_of(COIN, (1,) * 40), 0)
        self.fails(BadLife, end_of, COIN, (1,) * 41)

    def test_no_life(self):
        for life in ((2,), (-1,), (0, 2), (True,), (0, False), (None,), ("0",), ((0,),), [0], [], "", {}, None, 0, True):
            self.fails(BadLife, end_of, COIN, life)
            self.fails(BadLife, words_of, COIN, life)
        self.fails(BadLife, end_of, GAME, (1, 0))
        self.fails(BadLife, end_of, ((),), (0,))

    def test_lives(self):
        self.same(lives(COIN, 0), ((),))
        self.same(lives(COIN, 2), ((), (0,), (0, 0), (0, 1), (1,), (1, 0), (1, 1)))
        self.same(lives((((1, "a"), (1, "b")), ()), 8), ((), (0,), (1,)))
        self.same(lives(((),), 8), ((),))
        self.assertEqual(len(lives(COIN, 8)), 511)
        self.assertEqual(lives((((0, None),),), 8), tuple([(0,) * many for many in range(9)]))

    def test_lives_against_all_tuples(self):
        for machine, _, _ in settings(2, 60):
            tuples = [life for length in range(5) for life in product(range(3), repeat=length)]
            wanted = []
            for life in tuples:
                try:
                    end_of(machine, life)
                    wanted.append(life)
                except BadLife:
                    pass
            self.same(lives(machine, 4), tuple(sorted(wanted)))

    def test_five_thousand_lives_and_one_more(self):
        found = lives(many_lives(0), 8)
        self.assertEqual(len(found), 5000)
        self.assertEqual(len(set(found)), 5000)
        self.assertEqual(list(found), sorted(found))
        self.assertEqual(lives(many_lives(0), 7), found)
        self.fails(TooMany, lives, many_lives(1), 8, most=5000)
        self.fails(TooMany, lives, many_lives(1), 7, most=5000)
        self.assertEqual(len(lives(many_lives(1), 1)), 4)
        self.fails(TooMany, lives, (((0, "a"),) * 6,), 8, most=5000)

    def test_no_length(self):
        for length in (-1, 9, True, False, None, "1", (1,), [1], {}, 10 ** 30):
            self.fails(BadNumber, lives, COIN, length)
        self.fails(BadNumber, lives, many_lives(1), 9)
        self.fails(BadMachine, lives, (), 9, index=None)

    def test_can_come(self):
        self.same(can_come(GAME), (0, 1))
        self.same(can_come((((39, "a"),),) + ((),) * 38 + (((7, "b"),),)), (0, 7, 39))
        line = tuple([((at + 1, None),) for at in range(39)]) + ((),)
        self.same(can_come(line), tuple(range(40)))
        for machine, _, _ in settings(3, 60, states=5):
            self.same(can_come(machine), tuple(sorted(states_from(machine, 0))))

    def test_is_loud(self):
        self.same(is_loud(COIN), True)
        self.same(is_loud((((0, "a"), (0, "a")),)), False)
        self.same(is_loud((((0, "a"), (0, None)),)), False)
        self.same(is_loud((((0, None),),)), True)
        self.same(is_loud(((),)), True)
        self.same(is_loud((((1, None),), ((0, "a"), (1, "b"), (0, "a")))), False)
        # A state that never comes may be as it likes.
        self.same(is_loud((((0, "a"), (0, "b")), ((0, "a"), (0, "a")))), True)


if __name__ == "__main__":
    unittest.main()
