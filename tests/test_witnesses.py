"""A judge from outside (point 44)."""

import random
import unittest
from itertools import combinations, permutations

from onelife.errors import BadHeard, BadMachine, BadMarks, BadTable, TooMany
from onelife.pairs import is_safe
from onelife.witnesses import least_lot, one_life
from onelife.worlds import heard as heard_in
from tests.manners import random_story
from tests.oracles import follow, lives_within
from tests.tools import COIN, COIN_TABLE, GAME, GAME_TABLE, NO_KIND, Case, settings

BOTH = (one_life, least_lot)
CLOCK = (((0, "a"),),)
CLOCK_TABLE = (((0,),),)


def wanted_life(machine, table, told, most):
    """The least of the shortest lives that say all pairs, by at most so many marks."""
    lives = [life for life, _, telling in lives_within(machine, table, most) if set(told) <= set(telling)]
    return min(lives, key=lambda life: (len(life), life), default=None)


def wanted_lot(machine, table, told, most):
    """The least of the smallest lots of pairs that no life of at most so many marks says together."""
    tellings = {telling for _, _, telling in lives_within(machine, table, most)}
    pairs = sorted(set(told))
    for many in range(len(pairs) + 1):
        for lot in combinations(pairs, many):
            if not any(set(lot) <= set(telling) for telling in tellings):
                return lot
    return None


class OneLifeTest(Case):
    def test_known(self):
        machine = (((1, "go"), (2, "stay")), ((0, "back"),), ())
        table = (((0,), (1,)), ((0, 0),), ())
        self.same(one_life(machine, 2, table, ((4, "stay"), (1, "go"))), (0, 0, 1))
        self.same(one_life(machine, 2, table, ((3, "back"),)), (0, 0))
        self.same(one_life(machine, 2, table, ((4, "stay"), (1, "stay"))), None)
        self.same(one_life(COIN, 2, COIN_TABLE, ((3, "no"), (1, "no"))), (1, 0, 1))
        self.same(one_life(GAME, 2, GAME_TABLE, ((5, "end"),)), (0, 0, 1))
        self.same(one_life(GAME, 2, GAME_TABLE, ((4, "on"), (5, "end"))), (0, 0, 1))
        # The least option that can is not the first one, and an option with another word is passed by.
        self.same(one_life(GAME, 2, GAME_TABLE, ((4, "on"),)), (0, 0))
        self.same(one_life(GAME, 2, GAME_TABLE, ((4, "on"), (2, "never"))), None)

    def test_nothing_was_heard(self):
        for machine, marks, table in ((COIN, 2, COIN_TABLE), (GAME, 2, GAME_TABLE), (((),), 1, ((),))):
            self.same(one_life(machine, marks, table, ()), ())
            self.same(least_lot(machine, marks, table, ()), None)

    def test_in_any_order_and_again(self):
        told = ((1, "yes"), (2, "no"), (4, "no"))
        for order in permutations(told + told[:1]):
            self.same(one_life(COIN, 2, COIN_TABLE, order), (0, 1, 0, 1))
        self.same(one_life(COIN, 2, COIN_TABLE, told * 13 + told[:1]), (0, 1, 0, 1))

    def test_fewest_options_come_ahead_of_least_ones(self):
        machine = (((1, None), (0, "b")), ((0, "b"),))
        table = (((0,), (1, 1)), ((0,),))
        self.same(one_life(machine, 2, table, ((2, "b"),)), (1,))
        self.same(one_life(machine, 2, table, ((2, "b"), (3, "b"))), None)
        self.same(one_life(machine, 2, table, ((2, "b"), (4, "b"))), (1, 1))

    def test_least_of_the_shortest(self):
        machine = (((0, "a"), (0, None), (0, "b")),)
        table = (((0,), (0,), (0, 0)),)
        self.same(one_life(machine, 1, table, ((3, "b"),)), (0, 2))
        self.same(one_life(machine, 1, table, ((4, "b"),)), (2, 2))
        self.same(one_life(machine, 1, table, ((4, "a"),)), (0, 2, 0))

    def test_a_longer_row_that_passes_by(self):
        machine = (((0, "a"), (0, "b")),)
        table = (((0,), (0, 0)),)
        self.same(one_life(machine, 1, table, ((1, "a"), (2, "a"))), (0, 0))
        self.same(one_life(machine, 1, table, ((1, "b"),)), None)
        self.same(one_life(machine, 1, table, ((1, "a"), (3, "b"))), (0, 1))
        self.same(one_life(machine, 1, table, ((2, "a"), (3, "b"))), None)
        self.same(least_lot(machine, 1, table, ((2, "a"), (3, "b"))), ((2, "a"), (3, "b")))

    def test_pairs_that_none_says(self):
        for pair in ((0, "yes"), (0, "no"), (1, "maybe"), (320, "y")):
            self.same(one_life(COIN, 2, COIN_TABLE, ((1, "yes"), pair)), None)
            self.same(least_lot(COIN, 2, COIN_TABLE, ((1, "yes"), pair)), (pair,))
            self.same(least_lot(COIN, 2, COIN_TABLE, (pair,) * 40), (pair,))
        # A state that no life comes to says nothing.
        self.same(least_lot(GAME, 2, GAME_TABLE, ((1, "end"), (1, "never"))), ((1, "never"),))

    def test_forty_options_and_more(self):
        self.same(one_life(CLOCK, 1, CLOCK_TABLE, ((40, "a"),)), (0,) * 40)
        for number in (41, 42, 320):
            self.fails(TooMany, one_life, CLOCK, 1, CLOCK_TABLE, ((number, "a"), (1, "a")), most=40)
            self.same(least_lot(CLOCK, 1, CLOCK_TABLE, ((number, "a"), (1, "a"))), None)
            self.same(one_life(CLOCK, 1, CLOCK_TABLE, ((number, "a"), (1, "b"))), None)
        table = (((0,) * 8,),)
        self.same(one_life(CLOCK, 1, table, ((320, "a"),)), (0,) * 40)
        self.same(one_life(CLOCK, 1, table, ((319, "a"),)), None)
        # There is a life of few options beside those of more than forty.
        self.same(len(one_life((((0, "a"), (0, None)),), 1, (((0,), (0,) * 8),), ((289, "a"),))), 37)


class LeastLotTest(Case):
    def test_one_pair(self):
        self.same(least_lot(COIN, 2, COIN_TABLE, ((3, "x"), (2, "y"), (1, "yes"))), ((2, "y"),))

    def test_two_pairs(self):
        self.same(least_lot(COIN, 2, COIN_TABLE, ((2, "yes"), (1, "yes"), (2, "no"), (1, "no"))), ((1, "no"), (1, "yes")))
        self.same(least_lot(COIN, 2, COIN_TABLE, ((2, "yes"), (1, "yes"), (2, "no"))), ((2, "no"), (2, "yes")))
        machine = (((1, "go"), (2, "stay")), ((0, "back"),), ())
        table = (((0,), (1,)), ((0, 0),), ())
        self.same(least_lot(machine, 2, table, ((4, "stay"), (1, "stay"))), ((1, "stay"), (4, "stay")))

    def test_three_and_more_pairs(self):
        for many in (3, 4, 5):
            # A life says all but one of so many words, whichever this is.
            states = [tuple([(1 + lacking * many, None) for lacking in range(many)])]
            for lacking in range(many):
                for at in range(many):
                    target = 1 + lacking * many + at + 1 if at + 1 < many else 0
                    states.append(((target, None if at == lacking else "a"),))
            machine = tuple(states)
            table = tuple([((0,),) * len(state) for state in machine])
            told = tuple([(number, "a") for number in range(2, many + 2)])
            self.same(least_lot(machine, 1, table, told), told)
            self.assertIsNone(one_life(machine, 1, table, told))
            for part in combinations(told, many - 1):
                self.assertIsNotNone(one_life(machine, 1, table, part))
                self.same(least_lot(machine, 1, table, part), None)

    def test_twelve_unlike_pairs_and_thirteen(self):
        told = tuple([(number, "yes") for number in range(1, 12)]) + ((5, "no"),)
        self.same(least_lot(COIN, 2, COIN_TABLE, told), ((5, "no"), (5, "yes")))
        self.same(least_lot(COIN, 2, COIN_TABLE, told + told), ((5, "no"), (5, "yes")))
        for more in ((12, "yes"), (0, "yes"), (12, "x")):
            self.fails(TooMany, least_lot, COIN, 2, COIN_TABLE, told + (more,), most=12)
            self.same(one_life(COIN, 2, COIN_TABLE, told + (more,)), None)
        # Of more than twelve pairs that one life says there is no such lot.
        said = tuple([(number, "yes") for number in range(1, 41)])
        self.same(least_lot(COIN, 2, COIN_TABLE, said), None)
        self.same(one_life(COIN, 2, COIN_TABLE, said), (0,) * 40)

    def test_no_life_of_any_length(self):
        # A life of more than forty options says both, so that there is no lot.
        self.same(least_lot(CLOCK, 1, CLOCK_TABLE, ((100, "a"), (300, "a"))), None)
        self.same(least_lot(CLOCK, 1, (((0, 0),),), ((100, "a"), (301, "a"), (303, "a"))), ((301, "a"),))


class AgainstLivesTest(Case):
    def test_against_lives_one_by_one(self):
        dice = random.Random(441)
        found = lots = 0
        for machine, marks, table in settings(442, 1500, states=3, options=3, longest=3):
            told = []
            lives = lives_within(machine, table, 6)
            for _ in range(dice.randint(0, 2)):
                telling = dice.choice(lives)[2]
                told.extend([pair for pair in telling if dice.random() < 0.7])
            if dice.random() < 0.3:
                told.append((dice.randint(0, 6), dice.choice("ab")))
            told = tuple(dice.sample(told, len(told)) + told[:1])
            life = wanted_life(machine, table, told, 6)
            self.same(one_life(machine, marks, table, told), life)
            lot = None if life is not None else wanted_lot(machine, table, told, 6)
            self.same(least_lot(machine, marks, table, told), lot)
            found += life is not None and len(life) > 1
            lots += lot is not None and len(lot) > 1
        self.assertGreater(found, 60)
        self.assertGreater(lots, 30)

    def test_behind_any_story_of_a_safe_table_one_life_says_all(self):
        dice = random.Random(443)
        torn = 0
        for machine, marks, table in settings(444, 800, options=2, longest=1):
            story = random_story(dice, machine, table, "sealed", dice.randint(0, 60))
            told = heard_in(machine, marks, table, story)[:40]
            if is_safe(machine, marks, table):
                life = one_life(machine, marks, table, told)
                self.assertTrue(set(told) <= set(follow(machine, table, life)[2]))
                self.same(least_lot(machine, marks, table, told), None)
            else:
                torn += one_life(machine, marks, table, told) is None
        self.assertGreater(torn, 5)


class ErrorsTest(Case):
    def test_no_heard(self):
        good = (1, "yes")
        for judge in BOTH:
            for value in (None, [], [good], {}, "", 0, True, (good,) * 41):
                self.fails(BadHeard, judge, COIN, 2, COIN_TABLE, value, index=None)
            for pair in (None, (), (1,), [1, "yes"], (1, "yes", 0), ("yes", 1), (True, "yes"), (-1, "yes"), (321, "yes"), (1, None),
                         (1, ""), (1, "abcdefghi"), (1, "Yes"), (1, "y-s"), (1, ["yes"]), (1, "y s"), "ab", {}, (None, "yes")):
                self.fails(BadHeard, judge, COIN, 2, COIN_TABLE, (pair,), index=0)
                self.fails(BadHeard, judge, COIN, 2, COIN_TABLE, (good, good, pair, None), index=2)
            for value in NO_KIND:
                if value not in ((), {}, []):
                    with self.assertRaises(BadHeard):
                        judge(COIN, 2, COIN_TABLE, value)

    def test_errors_from_left_to_right(self):
        for judge in BOTH:
            self.fails(BadMachine, judge, None, 0, None, None, index=None)
            self.fails(BadMarks, judge, COIN, 0, None, None)
            self.fails(BadTable, judge, COIN, 2, None, None, index=None)
            self.fails(BadHeard, judge, COIN, 2, COIN_TABLE, None, index=None)


if __name__ == "__main__":
    unittest.main()
