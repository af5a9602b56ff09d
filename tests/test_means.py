"""Mean turns, and the tables that need the fewest (points 20 and 21)."""

import random
import unittest
from fractions import Fraction
from itertools import product

from onelife.codes import least_price
from onelife.errors import BadMachine, BadMarks, BadTable, BadWeights, NoTable
from onelife.means import cheapest_table, mean_pace, mean_total, shows_cheapest_table
from onelife.tables import is_apart
from tests.oracles import apart_lengths, are_apart, states_from
from tests.tools import COIN, COIN_TABLE, GAME, GAME_TABLE, NO_KIND, Case, random_setting, random_table, settings

TWO_PACES = (((1, None), (2, None)), ((1, None),), ((2, None),))


def random_chances(dice, machine, most=5):
    return tuple([tuple([dice.randint(1, most) for _ in state]) for state in machine])


def chance_rows(machine, weights):
    """For each state the chances of the states behind it; one without options stays."""
    rows = []
    for state, options in enumerate(machine):
        row = [0.0] * len(machine)
        if not options:
            row[state] = 1.0
        for (target, _), weight in zip(options, weights[state]):
            row[target] += weight / sum(weights[state])
        rows.append(row)
    return rows


def times(one, other):
    return [[sum([row[k] * other[k][at] for k in range(len(other))]) for at in range(len(other[0]))] for row in one]


def turns_at(table, weights):
    """The mean number of turns of a choice at each state."""
    return [sum([weight * len(row) for weight, row in zip(numbers, rows)]) / max(1, sum(numbers))
            for numbers, rows in zip(weights, table)]


def total_nearly(machine, table, weights):
    """The mean number of turns from state 0, by doubling the number of choices again and again."""
    rows, total = chance_rows(machine, weights), [[turns] for turns in turns_at(table, weights)]
    for _ in range(30):
        total = [[before[0] + more[0]] for before, more in zip(total, times(rows, total))]
        rows = times(rows, rows)
    return total[0][0]


def pace_nearly(machine, table, weights):
    """The mean pace in the long run, by a chain that stays half of the time, after very many choices."""
    rows = chance_rows(machine, weights)
    rows = [[part / 2 + (at == to) / 2 for to, part in enumerate(row)] for at, row in enumerate(rows)]
    for _ in range(40):
        rows = times(rows, rows)
        rows = [[part / sum(row) for part in row] for row in rows]
    return sum([chance * turns for chance, turns in zip(rows[0], turns_at(table, weights))])


class MeanTotalTest(Case):
    def test_known_means(self):
        self.same(mean_total(GAME, 2, GAME_TABLE, ((1, 2, 1), (), (1, 1))), (3, 1))
        self.same(mean_total((((1, "a"),), ()), 1, (((0,) * 8,), ()), ((1000,), ())), (8, 1))
        self.same(mean_total(((),), 1, ((),), ((),)), (0, 1))
        self.same(mean_total(((), ((1, "a"),)), 1, ((), ((0,),)), ((), (3,))), (0, 1))
        game = (((0, None), (1, None)), ())
        self.same(mean_total(game, 2, (((0,), (1,)), ()), ((999, 1), ())), (1000, 1))
        self.same(mean_total(game, 2, (((0,), (1,)), ()), ((1, 1000), ())), (1001, 1000))
        self.same(mean_total(game, 2, (((0,), (1,)), ()), ((1000, 1000), ())), (2, 1))

    def test_none_if_it_may_never_end(self):
        self.same(mean_total(COIN, 2, COIN_TABLE, ((1, 1),)), None)
        machine = (((1, None), (2, None)), (), ((2, None),))
        table = (((0,), (1,)), (), ((0,),))
        self.same(mean_total(machine, 2, table, ((1000, 1), (), (1,))), None)
        # A state that never comes has no part in it.
        self.same(mean_total(machine[:1] + ((), ((2, None),)), 2, table, ((1, 1), (), (1,))), None)
        ended = (((1, None),), (), ((2, None),))
        self.same(mean_total(ended, 2, (((0,),), (), ((0,),)), ((1,), (), (1,))), (1, 1))

    def test_against_doubling(self):
        dice = random.Random(211)
        ended = 0
        for machine, marks, table in settings(212, 400, states=5, longest=8):
            weights = random_chances(dice, machine, dice.choice([1, 5, 20]))
            found = mean_total(machine, marks, table, weights)
            ends = all([any([not machine[to] for to in states_from(machine, at)]) for at in states_from(machine, 0)])
            self.assertEqual(found is not None, ends)
            if found is not None:
                ended += 1
                nearly = total_nearly(machine, table, weights)
                self.assertAlmostEqual(found[0] / found[1] / max(1, nearly), nearly / max(1, nearly), places=6)
                fraction = Fraction(found[0], found[1])
                self.same(found, (fraction.numerator, fraction.denominator))
        self.assertGreater(ended, 100)

    def test_forty_states(self):
        machine = tuple([((at + 1, None), (0, "back")) for at in range(39)]) + ((),)
        table = (((0,), (1, 1)),) * 39 + ((),)
        weights = ((3, 1),) * 39 + ((),)
        # From the end on, the mean of a state is what it has for itself and a share of the mean of state 0.
        own, share = Fraction(0), Fraction(0)
        for _ in range(39):
            own, share = Fraction(3, 4) * (1 + own) + Fraction(1, 4) * 2, Fraction(3, 4) * share + Fraction(1, 4)
        mean = own / (1 - share)
        self.same(mean_total(machine, 2, table, weights), (mean.numerator, mean.denominator))
        self.same(mean_pace(machine, 2, table, weights), None)


class MeanPaceTest(Case):
    def test_known_means(self):
        self.same(mean_pace(COIN, 2, COIN_TABLE, ((7, 3),)), (1, 1))
        self.same(mean_pace(COIN, 2, (((0,), (1, 0)),), ((3, 1),)), (5, 4))
        ring = (((1, None),), ((2, None),), ((0, None),))
        self.same(mean_pace(ring, 1, (((0,),), ((0, 0),), ((0,) * 8,)), ((1,), (1000,), (5,))), (11, 3))

    def test_several_ends(self):
        table = (((0,), (1,)), ((0,),), ((0, 0, 0),))
        self.same(mean_pace(TWO_PACES, 2, table, ((3, 1), (1,), (9,))), (3, 2))
        self.same(mean_pace(TWO_PACES, 2, table, ((1, 1000), (1,), (9,))), (3001, 1001))
        machine = (((0, None), (1, None), (2, None)),) + TWO_PACES[1:]
        self.same(mean_pace(machine, 2, (((0,), (1,), (1,)),) + table[1:], ((6, 1, 1), (1,), (1,))), (2, 1))

    def test_none_if_it_may_end(self):
        self.same(mean_pace(GAME, 2, GAME_TABLE, ((1, 1, 1), (), (1, 1))), None)
        self.same(mean_pace(((),), 2, ((),), ((),)), None)
        self.same(mean_pace(COIN + ((),), 2, COIN_TABLE + ((),), ((1, 1), ())), (1, 1))
        self.same(mean_total(COIN + ((),), 2, COIN_TABLE + ((),), ((1, 1), ())), None)

    def test_against_a_long_run(self):
        dice = random.Random(213)
        found = []
        for machine, marks, table in settings(214, 500, states=6, options=2, longest=8):
            weights = random_chances(dice, machine)
            pace = mean_pace(machine, marks, table, weights)
            self.assertEqual(pace is None, not all([machine[state] for state in states_from(machine, 0)]))
            if pace is not None:
                found.append(pace)
                self.assertAlmostEqual(pace[0] / pace[1], pace_nearly(machine, table, weights), places=6)
                fraction = Fraction(pace[0], pace[1])
                self.same(pace, (fraction.numerator, fraction.denominator))
        self.assertGreater(len(found), 60)
        self.assertGreater(len([pace for pace in found if pace[1] > 1]), 30)

    def test_many_rings(self):
        dice = random.Random(215)
        # A choice of six rings, of which the pace of each is known.
        sizes = [1, 2, 3, 5, 7, 11]
        machine, table, weights, paces, first = [None], [None], [(4, 1, 2, 3, 5, 1)], [], 1
        for size in sizes:
            lengths = [dice.randint(1, 8) for _ in range(size)]
            paces.append(Fraction(sum(lengths), size))
            machine += [((first + (at + 1) % size, None),) for at in range(size)]
            table += [((0,) * length,) for length in lengths]
            weights += [(dice.randint(1, 1000),) for _ in range(size)]
            first += size
        starts = [1 + sum(sizes[:at]) for at in range(6)]
        machine[0], table[0] = tuple([(start, "go") for start in starts]), ((0,),) * 6
        mean = sum([pace * weight for pace, weight in zip(paces, weights[0])]) / sum(weights[0])
        self.same(mean_pace(tuple(machine), 1, tuple(table), tuple(weights)), (mean.numerator, mean.denominator))


class CheapestTableTest(Case):
    def test_states_with_one_option_and_none(self):
        self.same(cheapest_table((((1, "a"),), ()), 1, ((5,), ())), (((0,),), ()))
        self.same(cheapest_table(((),), 4, ((),)), ((),))
        self.same(shows_cheapest_table((((1, "a"),), ()), 2, ((5,), ()), (((1,),), ())), True)
        self.same(shows_cheapest_table((((1, "a"),), ()), 2, ((5,), ()), (((1, 1),), ())), False)

    def test_no_table(self):
        two = (((0, "a"), (1, "b")), ())
        self.fails(NoTable, cheapest_table, two, 1, ((1, 1), ()))
        # Also at a state that no life comes to.
        hidden = ((), ((0, "a"), (0, "b")))
        self.fails(NoTable, cheapest_table, hidden, 1, ((), (1, 1)))
        for value in NO_KIND + [(((0,), (0,)), ()), (((0,), (0, 0)), ()), ((), ())]:
            self.same(shows_cheapest_table(two, 1, ((1, 1), ()), value), False)
            self.same(shows_cheapest_table(hidden, 1, ((), (1, 1)), value), False)

    def test_six_options_of_unlike_weights(self):
        machine = (tuple([(0, letter) for letter in "abcdef"]),)
        weights = ((1000, 500, 250, 125, 60, 30),)
        table = cheapest_table(machine, 2, weights)
        self.assertEqual([len(row) for row in table[0]][:4], [1, 2, 3, 4])
        self.assertEqual(max([len(row) for row in table[0]]), 5)
        self.same(shows_cheapest_table(machine, 2, weights, table), True)
        self.same(mean_pace(machine, 2, table, weights)[0] / mean_pace(machine, 2, table, weights)[1],
                  (1000 + 1000 + 750 + 500 + 300 + 150) / 1965)

    def test_least_at_each_state(self):
        dice = random.Random(221)
        for _ in range(60):
            machine, marks, _ = random_setting(dice, states=3, options=6, marks=4)
            weights = random_chances(dice, machine, dice.choice([3, 1000]))
            if marks == 1 and max(map(len, machine)) > 1:
                self.fails(NoTable, cheapest_table, machine, marks, weights)
                continue
            table = cheapest_table(machine, marks, weights)
            self.same(shows_cheapest_table(machine, marks, weights, table), True)
            for rows, numbers in zip(table, weights):
                self.assertTrue(are_apart(rows))
                price = sum([weight * len(row) for weight, row in zip(numbers, rows)])
                self.assertEqual(price, least_price(marks, numbers) if numbers else 0)

    def test_against_all_lengths(self):
        dice = random.Random(222)
        for _ in range(20):
            many, marks = dice.randint(1, 5), dice.randint(2, 4)
            machine, weights = (((0, None),) * many,), (tuple([dice.randint(1, 9) for _ in range(many)]),)
            prices = [sum([weight * length for weight, length in zip(weights[0], lengths)])
                      for lengths in apart_lengths(marks, many, 4)]
            table = cheapest_table(machine, marks, weights)
            self.assertEqual(sum([weight * len(row) for weight, row in zip(weights[0], table[0])]), min(prices))

    def test_which_tables_are_shown(self):
        dice = random.Random(223)
        shown = 0
        for _ in range(400):
            many = [dice.randint(0, 3), dice.randint(1, 3)]
            machine = tuple([tuple([(dice.randrange(2), None) for _ in range(size)]) for size in many])
            weights = random_chances(dice, machine, 3)
            table = random_table(dice, machine, 2, 3)
            prices = [sum([weight * len(row) for weight, row in zip(numbers, rows)]) for numbers, rows in zip(weights, table)]
            least = [least_price(2, numbers) if numbers else 0 for numbers in weights]
            wanted = prices == least and all([are_apart(rows) for rows in table])
            self.same(shows_cheapest_table(machine, 2, weights, table), wanted)
            shown += wanted
        self.assertGreater(shown, 10)

    def test_no_apart_table_has_a_lesser_mean(self):
        dice = random.Random(224)
        lengths = {many: apart_lengths(2, many, 3) for many in range(4)}
        for _ in range(25):
            machine, _, _ = random_setting(dice, states=3, options=3)
            weights = random_chances(dice, machine)
            best = cheapest_table(machine, 2, weights)
            self.assertTrue(is_apart(machine, 2, best))
            least = [mean(machine, 2, best, weights) for mean in (mean_total, mean_pace)]
            for sizes in product(*[lengths[len(state)] for state in machine]):
                table = tuple([tuple([(0,) * length for length in row]) for row in sizes])
                for mean, (over, under) in zip((mean_total, mean_pace), [pair or (0, 1) for pair in least]):
                    other = mean(machine, 2, table, weights)
                    self.assertTrue(other is None or other[0] * under >= over * other[1])

    def test_rows_of_eight_marks_and_longer_ones(self):
        machine = (((0, "a"),), ((1, "b"), (1, "c")))
        weights = ((1,), (1, 1))
        for table in ((((0,) * 8,), ((0,), (1,))), (((0,) * 9,), ((0,), (1,))), (((0,),), ((0,) * 8, (1,) * 9))):
            self.same(shows_cheapest_table(machine, 2, weights, table), False)
        self.same(shows_cheapest_table(machine, 2, weights, (((0,),), ((1,), (0,)))), True)
        long = (((0,) * 8,), ((0,) * 8, (1,) * 8))
        self.same(mean_pace(machine, 2, long, weights), (8, 1))
        self.fails(BadTable, mean_pace, machine, 2, (((0,) * 9,), ((0,), (1,))), weights, index=0)

    def test_any_value(self):
        for value in NO_KIND + [[((0,), (1,))], ([(0,), (1,)],), (((0,), [1]),), (((0,), (True,)),), (((False,), (1,)),), (),
                                (((0,), (2,)),), (((0,), (1,)), ()), (((0,), (1,), (1,)),), (((0,), ()),)]:
            self.same(shows_cheapest_table(COIN, 2, ((1, 1),), value), False)
        self.same(shows_cheapest_table(COIN, 2, ((1, 1),), COIN_TABLE), True)


class ErrorsTest(Case):
    def test_chances(self):
        wrong = [None, (), [], {}, "a", 1, True, ((),), ((1,),), ((1, 1, 1),), ((1, 0),), ((1, 1001),), ((1, -1),), ((1, True),),
                 ((1, None),), ((1, "1"),), ([1, 1],), [(1, 1)], ((1, 1), ()), ((1, 1), (1, 1)), ((1, {}),), ({1: 1},)]
        for weights in wrong:
            self.fails(BadWeights, mean_total, COIN, 2, COIN_TABLE, weights)
            self.fails(BadWeights, mean_pace, COIN, 2, COIN_TABLE, weights)
            self.fails(BadWeights, cheapest_table, COIN, 2, weights)
            # Wrong chances come ahead of no table.
            self.fails(BadWeights, cheapest_table, COIN, 1, weights)
            self.fails(BadWeights, shows_cheapest_table, COIN, 2, weights, None)
        for weights in (((1, 1000),), ((1000, 1),)):
            self.same(mean_pace(COIN, 2, COIN_TABLE, weights), (1, 1))
        # The chances of a state that never comes are asked, too.
        self.fails(BadWeights, mean_total, GAME, 2, GAME_TABLE, ((1, 1, 1), (), (1, 0)))
        self.fails(BadWeights, mean_total, GAME, 2, GAME_TABLE, ((1, 1, 1), (1,), (1, 1)))

    def test_errors_from_left_to_right(self):
        for told in (mean_total, mean_pace):
            self.fails(BadMachine, told, None, None, None, None, index=None)
            self.fails(BadMarks, told, COIN, 0, None, None)
            self.fails(BadTable, told, COIN, 2, (None,), None, index=0)
        self.fails(BadMachine, cheapest_table, (None,), 0, None, index=0)
        self.fails(BadMarks, cheapest_table, COIN, 5, None)
        self.fails(BadMachine, shows_cheapest_table, (None,), 0, None, None, index=0)
        self.fails(BadMarks, shows_cheapest_table, COIN, 5, None, None)


if __name__ == "__main__":
    unittest.main()
