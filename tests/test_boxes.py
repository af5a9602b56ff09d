"""Machines made of machines (point 14)."""

import random
import unittest
from itertools import product

from onelife.boxes import gathered, joined
from onelife.errors import BadMachine, BadNumber, TooMany
from onelife.machines import end_of, is_loud, lives, words_of
from tests.oracles import follow
from tests.tools import COIN, GAME, NO_KIND, Case, settings


def gathered_lives(machine, state, many):
    """The lives that are the options of a state, by trying all tuples of options."""
    found = []
    for length in range(1, many + 1):
        for life in product(range(6), repeat=length):
            at, fits = state, True
            for option in life:
                fits = fits and option < len(machine[at])
                at = machine[at][option][0] if fits else at
            if fits and (length == many or not machine[at]):
                found.append(life)
    return sorted(found)


def led_by(machine, state, life):
    words = ""
    for option in life:
        state, word = machine[state][option]
        words += word or ""
    return state, words or None


class GatheredTest(Case):
    def test_one_at_a_time_is_the_machine_itself(self):
        for machine, _, _ in settings(41, 100, states=5):
            self.same(gathered(machine, 1), machine)

    def test_states_without_options_end_the_waiting(self):
        machine = (((1, "a"), (2, None)), (), ((2, "b"), (1, "c")))
        self.same(gathered(machine, 2), (((1, "a"), (2, "b"), (1, "c")), (), ((2, "bb"), (1, "bc"), (1, "c"))))
        self.same(gathered(machine, 3), (((1, "a"), (2, "bb"), (1, "bc"), (1, "c")), (),
                                         ((2, "bbb"), (1, "bbc"), (1, "bc"), (1, "c"))))
        self.same(gathered(((),), 3), ((),))

    def test_nothing_said(self):
        self.same(gathered((((0, None), (0, "a")),), 2), (((0, None), (0, "a"), (0, "a"), (0, "aa")),))
        self.same(gathered((((1, None),), ()), 2), (((1, None),), ()))

    def test_against_all_tuples_of_options(self):
        made = 0
        for machine, _, _ in settings(42, 300, states=4, options=3, words=("a", "bc", None)):
            for many in (2, 3):
                wanted = [[led_by(machine, state, life) for life in gathered_lives(machine, state, many)]
                          for state in range(len(machine))]
                if max(map(len, wanted)) > 6:
                    self.fails(TooMany, gathered, machine, many, most=6)
                else:
                    made += 1
                    self.same(gathered(machine, many), tuple([tuple(options) for options in wanted]))
        self.assertGreater(made, 200)

    def test_lives_say_the_same(self):
        machine = (((1, "a"), (0, "b")), ((1, None), (0, "c")))
        waiting = gathered(machine, 2)
        at_once = [life for life in lives(machine, 4) if len(life) == 4]
        wide = [life for life in lives(waiting, 2) if len(life) == 2]
        self.same(["".join(words_of(machine, life)) for life in at_once],
                  ["".join(words_of(waiting, life)) for life in wide])
        self.same([end_of(machine, life) for life in at_once], [end_of(waiting, life) for life in wide])

    def test_six_options_and_more(self):
        six = (((1, "a"), (1, "b")), ((2, "c"), (2, "d"), (2, "e")), ())
        self.assertEqual([len(state) for state in gathered(six, 2)], [6, 3, 0])
        seven = (((1, "a"), (1, "b"), (2, "x")), ((2, "c"), (2, "d"), (2, "e")), ())
        self.fails(TooMany, gathered, seven, 2, most=6)
        # Also at a state that no life comes to.
        self.fails(TooMany, gathered, (((0, "a"),), tuple([(1, letter) for letter in "abc"])), 2, most=6)
        self.fails(TooMany, gathered, COIN, 3, most=6)
        self.assertEqual(len(gathered(COIN, 2)[0]), 4)
        self.fails(TooMany, gathered, (tuple([(0, letter) for letter in "abcdef"]),) * 40, 3, most=6)

    def test_eight_letters_and_more(self):
        self.same(gathered((((0, "abcd"),),), 2), (((0, "abcdabcd"),),))
        self.same(gathered((((1, "abcdefgh"),), ((1, None),)), 2)[0], ((1, "abcdefgh"),))
        self.fails(TooMany, gathered, (((1, "abcde"),), ((0, "abcd"),)), 2, most=8)
        self.fails(TooMany, gathered, (((0, "abc"),),), 3, most=8)
        # Too many options come first, whichever state has them.
        both = (((0, "abcdefgh"),), tuple([(1, letter) for letter in "abc"]))
        self.fails(TooMany, gathered, both, 2, most=6)
        self.fails(TooMany, gathered, ((), ((1, "abcde"),)), 2, most=8)

    def test_errors(self):
        for many in (0, 4, -1, True, False, None, "1", (1,), [1], {}, 10 ** 30):
            self.fails(BadNumber, gathered, (tuple([(0, letter) for letter in "abcdef"]),), many)
        for value in NO_KIND:
            self.fails(BadMachine, gathered, value, 0, index=0 if isinstance(value, tuple) and len(value) < 41 else None)


class JoinedTest(Case):
    def test_pairs_of_states(self):
        self.same(joined(GAME, COIN), (
            ((0, "on"), (1, "end"), (0, None), (0, "yes"), (0, "no")), ((1, "yes"), (1, "no")),
            ((2, "never"), (0, None), (2, "yes"), (2, "no"))))
        self.same(joined(((),), ((),)), ((),))
        self.same(joined(((), ((0, "a"),)), (((1, None),), ())), (
            ((1, None),), (), ((0, "a"), (3, None)), ((1, "a"),)))

    def test_against_a_second_telling(self):
        made = 0
        for (one, _, _), (other, _, _) in zip(settings(43, 200, states=5), settings(44, 200, states=5)):
            if max(map(len, one)) + max(map(len, other)) > 6:
                self.fails(TooMany, joined, one, other, most=6)
                continue
            made += 1
            wanted = {}
            for at, first in enumerate(one):
                for to, second in enumerate(other):
                    wanted[at * len(other) + to] = tuple(
                        [(p * len(other) + to, word) for p, word in first]
                        + [(at * len(other) + q, word) for q, word in second])
            self.same(joined(one, other), tuple([wanted[number] for number in range(len(wanted))]))
        self.assertGreater(made, 150)

    def test_parts_of_a_life_are_lives(self):
        dice = random.Random(45)
        machine = joined(GAME, COIN)
        for life in dice.sample(lives(machine, 4), 60):
            first, second, state = (), (), 0
            for option in life:
                options = len(GAME[state // len(COIN)])
                if option < options:
                    first += (option,)
                else:
                    second += (option - options,)
                state = machine[state][option][0]
            table = [[tuple() for _ in options] for options in GAME]
            self.same(state // len(COIN), follow(GAME, table, first)[0])
            self.same(state % len(COIN), end_of(COIN, second))
            self.same(sorted(words_of(machine, life)), sorted(words_of(GAME, first) + words_of(COIN, second)))

    def test_loud_machines_may_say_alike(self):
        self.assertFalse(is_loud(joined(COIN, COIN)))
        self.assertTrue(is_loud(joined(COIN, (((0, "go"),),))))

    def test_forty_states_and_more(self):
        def silent(states):
            return ((),) * states
        for one, other in ((5, 8), (40, 1), (1, 40), (8, 5), (3, 13), (6, 6)):
            self.same(joined(silent(one), silent(other)), silent(one * other))
        for one, other in ((6, 7), (41 // 2, 3), (40, 40), (2, 21)):
            self.fails(TooMany, joined, silent(one), silent(other), most=40)

    def test_six_options_and_more(self):
        three, four = (((0, "a"),) * 3,), (((0, "b"),) * 4,)
        self.assertEqual(len(joined(three, three)[0]), 6)
        self.fails(TooMany, joined, three, four, most=6)
        self.fails(TooMany, joined, four, three, most=6)
        # Too many states come first.
        self.fails(TooMany, joined, (((0, "a"),) * 6,) * 7, (((0, "a"),),) * 6, most=40)
        self.fails(TooMany, joined, ((), ((0, "a"),) * 6), ((), ((0, "a"),)), most=6)

    def test_errors_from_left_to_right(self):
        for value in (None, (), [], "a", 1, True, {}, ((),) * 41):
            self.fails(BadMachine, joined, value, (None,), index=None)
            self.fails(BadMachine, joined, ((),) * 40, value, index=None)
        self.fails(BadMachine, joined, COIN, (((0, "a"),), ((2, "a"),)), index=1)
        self.fails(BadMachine, joined, ((), (), None), None, index=2)


if __name__ == "__main__":
    unittest.main()
