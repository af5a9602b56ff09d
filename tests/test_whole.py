"""What the document promises over the whole program: points 8, 9, 10, 16, 17, 21, 22, 43, 44 and 49."""

import random
import unittest
from itertools import product

from onelife.benches import Bench
from onelife.boxes import joined
from onelife.codes import loud_table
from onelife.errors import NoTable, NotApart, TooMany
from onelife.harms import harm_of
from onelife.led import death_of, filled, led_heard, led_is_dead, never_dies
from onelife.machines import can_come, end_of, is_loud
from onelife.means import cheapest_table, mean_pace, mean_total
from onelife.pairs import closed_paper, is_safe, parting, shows_closed, shows_parting
from onelife.ports import coins_behind, most_coins, on_the_way, port_machine, port_stand
from onelife.programs import machine_of
from onelife.readings import told_at
from onelife.searches import least_table
from onelife.tables import is_apart, is_full, spelled, telling
from onelife.tills import held_by, most_too_much, till_machine, till_stands, too_much
from onelife.tricks import shows_story, story_of
from onelife.unions import joined_table
from onelife.witnesses import least_lot, one_life
from onelife.worlds import heard, is_dead, spoken, two_lives
from tests.manners import random_story, stories_within
from tests.oracles import all_rows, along
from tests.post import Post, random_pairs
from tests.tools import Case, random_table, settings

ALL = settings(1001, 250, states=3, options=3, longest=3)
LOUD = [setting for setting in settings(1002, 400, states=3, options=2, words=("a", "b")) if is_loud(setting[0])]


def led_story(dice, machine, marks, table, length):
    """A led story that is booted again and again with notes that fit, and cut; as its marks fall."""
    story, shelf, wheel, stand = [], [(0, None, (), ())], (0, None), None
    while len(story) < length:
        if stand is None:
            note = dice.choice([note for note in shelf if note[:2] == wheel])
            story.append(("boot", note))
        else:
            life, begun, mute = stand
            if mute or dice.random() < 0.2:
                story.append(("cut",))
                stand = None
                if mute:
                    return tuple(story)
                continue
            mark = dice.randrange(marks)
            story.append(("go", mark))
            wheel = (wheel[0] + 1, mark)
            note = wheel + (life, begun + (mark,))
        life, begun = note[2:]
        state = end_of(machine, life)
        if begun in table[state]:
            life, begun = life + (table[state].index(begun),), ()
            state = end_of(machine, life)
        mute = not any([row[:len(begun)] == begun for row in table[state]])
        stand = life, begun, mute
        if not mute:
            shelf.extend([(wheel[0] + 1, mark, life, begun + (mark,)) for mark in range(marks)])
        if len(life) > 38:
            break
    return tuple(story)


class SafeTest(Case):
    def test_a_paper_exactly_if_safe(self):
        safe = 0
        for machine, marks, table in ALL:
            paper = closed_paper(machine, marks, table)
            self.same(paper is not None, is_safe(machine, marks, table))
            self.same(parting(machine, marks, table) is None, is_safe(machine, marks, table))
            self.same(shows_closed(machine, marks, table, paper), paper is not None)
            safe += paper is not None
        self.assertTrue(50 < safe < len(ALL) - 20, safe)

    def test_two_lives_are_heard_exactly_if_two_lives_part(self):
        for machine, marks, table in ALL:
            pair = parting(machine, marks, table)
            if pair is not None:
                story = story_of(machine, marks, table, *pair)
                self.same(shows_parting(machine, marks, table, pair), True)
                self.same(shows_story(machine, marks, table, pair[0], pair[1], story), True)
                found = two_lives(machine, marks, table, story)
                self.assertFalse(along(*[telling(machine, marks, table, life) for life in found]))
        dice = random.Random(1003)
        for machine, marks, table in ALL:
            if is_safe(machine, marks, table):
                story = random_story(dice, machine, table, "sealed", 40)
                self.same(two_lives(machine, marks, table, story), None)

    def test_never_dead(self):
        dice = random.Random(1004)
        for machine, marks, table in ALL:
            for length in (0, 1, 10, 40):
                story = random_story(dice, machine, table, "sealed", length)
                self.same(is_dead(machine, marks, table, story), False)
        for machine, marks, table in ALL[:30]:
            for story in stories_within(machine, table, "sealed", 5):
                self.same(is_dead(machine, marks, table, story), False)

    def test_for_loud_machines_safe_is_apart(self):
        apart = 0
        for machine, marks, table in LOUD:
            self.same(is_safe(machine, marks, table), is_apart(machine, marks, table))
            apart += is_apart(machine, marks, table)
        self.assertTrue(30 < apart < len(LOUD) - 10, (apart, len(LOUD)))

    def test_no_harm_in_a_sealed_house_with_a_safe_table(self):
        for machine, marks, table in ALL[:80]:
            harm = harm_of(machine, marks, table, "sealed", 6)
            if is_safe(machine, marks, table):
                self.same(harm, None)
            elif harm is not None:
                self.same(harm[0], "two lives")
                self.assertIsNotNone(two_lives(machine, marks, table, harm[1]))

    def test_a_bench_hears_one_life(self):
        dice = random.Random(1005)
        for machine, marks, table in [setting for setting in ALL if is_safe(*setting)][:60]:
            bench = Bench(machine, marks, table)
            for _ in range(120):
                steps = [(bench.cut,)] if bench.stand != ("off",) else [(bench.boot, note) for note in bench.fitting()]
                if bench.stand[0] == "choice":
                    many = len(machine[end_of(machine, bench.stand[1])]) if len(bench.stand[1]) < 40 else 0
                    steps.extend([(bench.ask, option) for option in range(many)])
                if bench.stand[0] == "sealed":
                    steps.extend([(bench.turn,)] * 3)
                step = dice.choice(steps)
                step[0](*step[1:])
                self.same(bench.harm(), None)


class LedTest(Case):
    def test_one_telling_and_no_death_exactly_if_full(self):
        dice = random.Random(1006)
        dead = 0
        for machine, marks, table in settings(1007, 300, states=3, options=4, longest=2):
            if not is_apart(machine, marks, table):
                with self.assertRaises(NotApart):
                    never_dies(machine, marks, table)
                continue
            full = all([is_full(marks, table[state]) for state in can_come(machine)])
            self.same(never_dies(machine, marks, table), full)
            self.same(death_of(machine, marks, table) is None, full)
            for length in (5, 25):
                story = led_story(dice, machine, marks, table, length)
                self.one_telling(machine, marks, table, story)
                if led_is_dead(machine, marks, table, story):
                    self.assertFalse(full)
                    dead += 1
        self.assertGreater(dead, 20)

    def one_telling(self, machine, marks, table, story):
        """What is heard is one life's telling: the one that the marks by which the wheel went spell."""
        going = tuple([step[1] for step in story if step[0] == "go"])
        life, begun = (), ()
        for mark in going:
            begun += (mark,)
            state = end_of(machine, life)
            if begun in table[state]:
                life, begun = life + (table[state].index(begun),), ()
        pairs = telling(machine, marks, table, life)
        self.assertTrue(set(led_heard(machine, marks, table, story)) <= set(pairs))
        first = tuple(dict.fromkeys(led_heard(machine, marks, table, story)))
        self.same(first, pairs)

    def test_filled_ones_never_die(self):
        filled_ones = 0
        for machine, marks, table in settings(1008, 200, states=3, options=3, longest=2):
            if is_apart(machine, marks, table):
                try:
                    more = filled(machine, marks, table)
                except TooMany:
                    continue
                self.same(never_dies(more[0], marks, more[1]), True)
                filled_ones += 1
        self.assertGreater(filled_ones, 40)


class MeanTest(Case):
    def test_no_table_with_apart_rows_has_a_lesser_mean(self):
        dice = random.Random(1009)
        checked = 0
        for machine, _, _ in settings(1010, 60, states=2, options=3):
            weights = tuple([tuple([dice.randint(1, 9) for _ in state]) for state in machine])
            for marks in (2, 3):
                best = cheapest_table(machine, marks, weights)
                lots = [[rows for rows in product(all_rows(marks, 2), repeat=len(state)) if is_apart((((0, None),) * len(rows),), marks, (rows,))]
                        for state in machine]
                tables = list(product(*lots))
                for mean in (mean_total, mean_pace):
                    least = mean(machine, marks, best, weights)
                    for table in dice.sample(tables, min(25, len(tables))):
                        other = mean(machine, marks, table, weights)
                        self.same(other is None, least is None)
                        if least is not None:
                            self.assertLessEqual(least[0] * other[1], other[0] * least[1])
                            checked += 1
        self.assertGreater(checked, 1000)


class ToldTest(Case):
    def told(self, machine, marks, table, row):
        """What was told at a row; a void telling if there are too many ways."""
        try:
            return told_at(machine, marks, table, row)
        except TooMany:
            return ()

    def test_the_marks_alone_tell_all_that_can_have_been_heard(self):
        dice = random.Random(1011)
        many = 0
        for machine, marks, table in ALL:
            if not is_safe(machine, marks, table):
                rows = [spelled(machine, marks, table, life) for life in parting(machine, marks, table)]
                self.same(self.told(machine, marks, table, max(rows, key=len)), None)
                continue
            for _ in range(10):
                row = tuple([dice.randrange(marks) for _ in range(dice.randint(0, 8))])
                self.assertIsNotNone(self.told(machine, marks, table, row))
            story = random_story(dice, machine, table, "sealed", 30)
            lives = spoken(machine, marks, table, story)
            if lives:
                row = max([spelled(machine, marks, table, life) for life in lives], key=len)
                told = self.told(machine, marks, table, row)
                if told != ():
                    self.assertTrue(set(heard(machine, marks, table, story)) <= set(told))
                    many += len(told)
        self.assertGreater(many, 100)

    def test_behind_any_story_of_a_safe_table_one_life_says_all(self):
        dice = random.Random(1012)
        for machine, marks, table in ALL:
            if is_safe(machine, marks, table):
                told = heard(machine, marks, table, random_story(dice, machine, table, "sealed", 50))
                life = one_life(machine, marks, table, told)
                self.assertTrue(set(told) <= set(telling(machine, marks, table, life)))
                self.same(least_lot(machine, marks, table, told), None)

    def test_two_lives_that_are_heard_leave_a_lot_that_no_life_says(self):
        lots = 0
        for machine, marks, table in LOUD:
            pair = parting(machine, marks, table)
            if pair is not None:
                told = heard(machine, marks, table, story_of(machine, marks, table, *pair))[:40]
                if one_life(machine, marks, table, told) is None and len(set(told)) <= 12:
                    self.assertTrue(set(least_lot(machine, marks, table, told)) <= set(told))
                    lots += 1
        self.assertGreater(lots, 20)


class HousesTest(Case):
    def test_safe_tills_are_never_too_much(self):
        dice = random.Random(1013)
        deeds = [("pay", 0, 1), ("pay", 1, 0), ("pay", 1, 2), ("give", 0), ("give", 2), ("take", 1), ("take", 2)]
        made = 0
        while made < 30:
            till = (tuple([dice.randint(0, 2) for _ in range(3)]), dice.randint(0, 2), tuple(dice.sample(deeds, 4)))
            try:
                machine = till_machine(till)
                table = dice.choice([loud_table(machine, 2), random_table(dice, machine, 2, 3)])
            except (TooMany, NoTable):
                continue
            if not is_safe(machine, 2, table):
                continue
            made += 1
            self.same(most_too_much(till, 2, table, 7), 0)
            story = random_story(dice, machine, table, "sealed", 45)
            told = heard(machine, 2, table, story)
            self.same(too_much(till, told), 0)
            longest = max(spoken(machine, 2, table, story), key=len, default=())
            self.same(held_by(till, told), till_stands(till)[end_of(machine, longest)])
            self.same(least_lot(machine, 2, table, told), None)

    def test_numbered_ports_with_safe_tables_keep_all_coins(self):
        dice = random.Random(1014)
        for _ in range(60):
            ports = (dice.randint(0, 3), dice.randint(0, 3), dice.randint(1, 3), True)
            machines = [port_machine(ports, side) for side in (0, 1)]
            one, other = [loud_table(machine, 3) for machine in machines]
            self.assertTrue(is_safe(machines[0], 3, one) and is_safe(machines[1], 3, other))
            self.same(most_coins(ports, 3, one, other, 7), ports[0] + ports[1])
            story = random_pairs(dice, ports, (one, other), dice.randint(0, 70))
            way = on_the_way(ports, 3, one, other, story)
            lives = [max(house.spoken, key=len, default=()) for house in Post(ports, (one, other), story).houses]
            coins = [port_stand(ports, side, life)[0] for side, life in enumerate(lives)]
            self.assertTrue(min(way) >= 0)
            self.assertEqual(sum(coins) + sum(way), ports[0] + ports[1])
            self.assertLessEqual(coins_behind(ports, 3, one, other, story), ports[0] + ports[1])


class TogetherTest(Case):
    def test_a_program_with_the_least_table_lives_once(self):
        program = ((("coins", 2),), (("while", ("coins", False, 1), (
            ("choose", (("put", (("set", "coins", None, 1),)), ("wait", ()))),)), ("say", "full")))
        machine = machine_of(program)
        table = least_table(machine, 2, 1)
        self.same(is_safe(machine, 2, table), True)
        self.same(harm_of(machine, 2, table, "sealed", 9), None)
        for most in range(7):
            for story in stories_within(machine, table, "sealed", most)[-50:]:
                told = heard(machine, 2, table, story)
                life = one_life(machine, 2, table, told)
                self.assertTrue(set(told) <= set(telling(machine, 2, table, life)))

    def test_two_houses_at_one_wheel(self):
        ports = (1, 1, 1, True)
        machines = [port_machine(ports, side) for side in (0, 1)]
        tables = [loud_table(machine, 2) for machine in machines]
        machine = joined(*machines)
        table = joined_table(machines[0], machines[1], 2, *tables)
        self.same([is_loud(machine), is_apart(machine, 2, table), is_safe(machine, 2, table)], [False, True, True])


if __name__ == "__main__":
    unittest.main()
