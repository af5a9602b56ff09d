"""Purses and tickets (points 42 and 43)."""

import random
import unittest
from itertools import permutations, product

from onelife.codes import loud_table
from onelife.errors import BadHeard, BadHouse, BadMarks, BadNumber, BadTable, NoTable, TooMany
from onelife.machines import can_come, end_of
from onelife.pairs import is_safe
from onelife.tills import held_by, most_too_much, shows_worst, till_machine, till_stands, too_much
from onelife.worlds import heard, spoken
from tests.manners import random_story, stories_within
from tests.oracles import Story
from tests.tools import BIRTH, NO_KIND, Case, random_table

BOOT = ("boot", BIRTH)
# One coin that can be paid to two persons.
CHEAT = ((1, 0, 0), 0, (("pay", 0, 1), ("pay", 0, 2)))
CHEAT_TABLE = (((0,), (0,)), (), ())
TWICE = (BOOT, ("ask", 0), ("cut",), BOOT, ("ask", 1), ("turn",), ("cut",), ("boot", (1, 0, (0,), 1)))
SHOP = ((1, 0, 0), 1, (("pay", 0, 1), ("pay", 0, 2), ("give", 0), ("take", 1)))

DEEDS = {many: [("pay", one, other) for one, other in permutations(range(many), 2)]
         + [(kind, one) for kind in ("give", "take") for one in range(many)] for many in (2, 3)}


def random_till(dice, most=2):
    many = dice.choice([2, 3])
    deeds = dice.sample(DEEDS[many], dice.randint(1, 4))
    return tuple([dice.randint(0, most) for _ in range(many)]), dice.randint(0, 2), tuple(deeds)


def tell(deed):
    return "".join([deed[0]] + ["abc"[person] for person in deed[1:]])


def moved(deed):
    """What a deed adds to the purse of each person and to the tickets out, by its word."""
    word = tell(deed)
    change = {"a": 0, "b": 0, "c": 0, "out": 0}
    change[word[-1]] += 1
    if word.startswith("give"):
        change[word[-1]] = -1
        change["out"] = 1
    elif word.startswith("take"):
        change["out"] = -1
    else:
        change[word[-2]] -= 1
    return change


def added(till, deeds):
    """Purses and tickets out when all deeds are added up, whether they can be done or not."""
    purses, out = list(till[0]), 0
    for deed in deeds:
        change = moved(deed)
        purses = [coins + change["abc"[at]] for at, coins in enumerate(purses)]
        out += change["out"]
    return tuple(purses), out


def after(till, deeds):
    """The stand behind deeds that are done one by one, None if one can't be."""
    for many in range(len(deeds) + 1):
        purses, out = added(till, deeds[:many])
        if min(purses) < 0 or not 0 <= out <= till[1]:
            return None
    return added(till, deeds)


def told_held(till, told):
    words = {tell(deed): deed for deed in till[2]}
    pairs = sorted(dict.fromkeys(told))
    if any([word not in words for _, word in pairs]) or len(dict(pairs)) < len(pairs):
        return None
    return after(till, [words[word] for _, word in pairs])


def told_too_much(till, told):
    words = {tell(deed): deed for deed in till[2]}
    if not all([word in words for _, word in told]):
        return 0
    purses, out = added(till, [words[word] for _, word in dict.fromkeys(told)])
    return sum([coins for coins in purses if coins > 0]) + (out if out > 0 else 0) - sum(till[0])


class TillMachineTest(Case):
    def test_shop(self):
        self.same(till_machine(SHOP), (((1, "payab"), (2, "payac"), (3, "givea")), (), (), ((1, "takeb"),)))
        self.same(till_stands(SHOP), (((1, 0, 0), 0), ((0, 1, 0), 0), ((0, 0, 1), 0), ((0, 0, 0), 1)))

    def test_tickets(self):
        till = ((1, 2), 1, (("give", 1), ("take", 0)))
        self.same(till_machine(till), (((1, "giveb"),), ((2, "takea"),), ((3, "giveb"),), ((4, "takea"),), ()))
        self.same(till_stands(till), (((1, 2), 0), ((1, 1), 1), ((2, 1), 0), ((2, 0), 1), ((3, 0), 0)))
        two = ((1, 2), 2, (("give", 1), ("take", 0)))
        self.same(till_stands(two)[:4], (((1, 2), 0), ((1, 1), 1), ((1, 0), 2), ((2, 1), 0)))
        self.same(till_machine(two)[:3], (((1, "giveb"),), ((2, "giveb"), (3, "takea")), ((4, "takea"),)))
        none = ((3, 3), 0, (("give", 0), ("take", 0)))
        self.same([till_machine(none), till_stands(none)], [((),), (((3, 3), 0),)])

    def test_nobody_has_a_coin(self):
        self.same(till_machine(((0, 0, 0), 2, (("pay", 0, 1), ("give", 2), ("take", 1)))), ((),))

    def test_deeds_in_their_order(self):
        self.same(till_machine(((1, 1), 1, (("give", 1), ("pay", 1, 0), ("give", 0))))[0], (
            (1, "giveb"), (2, "payba"), (3, "givea")))

    def test_against_deeds_one_by_one(self):
        dice = random.Random(421)
        many = 0
        for _ in range(200):
            till = random_till(dice, 3)
            stands = [(till[0], 0)]
            machine = []
            for purses, out in stands:
                options = []
                for deed in till[2]:
                    behind = after((purses, till[1] - out, till[2]), [deed]) if deed[0] != "take" else None
                    if deed[0] == "take" and out > 0:
                        behind = added((purses, 0, ()), [deed])
                    if behind is not None:
                        stand = (behind[0], behind[1] + out)
                        if stand not in stands:
                            stands.append(stand)
                        options.append((stands.index(stand), tell(deed)))
                machine.append(tuple(options))
            if len(stands) > 40:
                many += 1
                self.fails(TooMany, till_machine, till, most=40)
                self.fails(TooMany, till_stands, till, most=40)
            else:
                self.same(till_machine(till), tuple(machine))
                self.same(till_stands(till), tuple(stands))
                self.same(can_come(till_machine(till)), tuple(range(len(stands))))
        self.assertTrue(0 < many < 150, many)

    def test_forty_stands_and_more(self):
        forty = ((0, 3, 3), 1, (("pay", 0, 1), ("pay", 1, 0), ("give", 2), ("give", 0), ("give", 1), ("pay", 2, 1)))
        self.assertEqual([len(till_machine(forty)), len(till_stands(forty))], [40, 40])
        # None of the tills tried has 41 stands; this one has 42.
        more = ((2, 0, 3), 2, (("give", 0), ("pay", 1, 0), ("pay", 2, 1), ("take", 1), ("give", 1)))
        self.fails(TooMany, till_machine, more, most=40)
        around = (("pay", 0, 1), ("pay", 1, 2), ("pay", 2, 0))
        # So many ways to put down the coins of three persons: 36 for 7 of them, 45 for 8.
        for purses, stands in (((3, 3, 1), 36), ((3, 2, 1), 28), ((3, 3, 2), None), ((3, 3, 3), None)):
            till = (purses, 0, around)
            if stands is None:
                self.fails(TooMany, till_machine, till, most=40)
                self.fails(TooMany, till_stands, till, most=40)
            else:
                self.assertEqual([len(till_machine(till)), len(till_stands(till))], [stands, stands])


class HeldTest(Case):
    def test_in_any_order_and_again(self):
        told = ((2, "takeb"), (1, "givea"), (1, "givea"))
        for order in permutations(told):
            self.same(held_by(SHOP, order), ((0, 1, 0), 0))
        self.same(held_by(SHOP, ()), ((1, 0, 0), 0))
        self.same(held_by(SHOP, told * 13 + told[:1]), ((0, 1, 0), 0))

    def test_none(self):
        for told in (((1, "payab"), (1, "payac")), ((1, "payab"), (2, "payac")), ((1, "payba"),), ((1, "takeb"),), ((1, "x"),),
                     ((1, "givea"), (2, "takeb"), (3, "x")), ((2, "givea"), (1, "takeb")), ((3, "givea"), (3, "takeb")),
                     ((1, "givea"), (2, "givea")), ((1, "payab"), (2, "payab")), ((1, "pay"),), ((1, "payad"),)):
            self.same(held_by(SHOP, told), None)

    def test_by_numbers(self):
        till = ((1, 0), 0, (("pay", 0, 1), ("pay", 1, 0)))
        self.same(held_by(till, ((320, "payba"), (0, "payab"))), ((1, 0), 0))
        self.same(held_by(till, ((10, "payab"), (9, "payba"), (2, "payab"))), ((0, 1), 0))
        self.same(held_by(till, ((0, "payba"), (320, "payab"))), None)
        # Purses may come to hold more than three coins.
        self.same(held_by(((3, 3), 0, (("pay", 0, 1),)), ((1, "payab"), (2, "payab"), (3, "payab"))), ((0, 6), 0))

    def test_against_deeds_added_up(self):
        dice = random.Random(422)
        held = 0
        for _ in range(3000):
            till = random_till(dice)
            words = [tell(deed) for deed in till[2]] + ["payab"]
            told = tuple([(dice.randint(0, 4), dice.choice(words)) for _ in range(dice.randint(0, 5))])
            told += told[:dice.randint(0, 1)]
            self.same(held_by(till, told), told_held(till, told))
            self.same(too_much(till, told), told_too_much(till, told))
            held += held_by(till, told) is not None
            if held_by(till, told) is not None:
                self.same(too_much(till, told), 0)
        self.assertGreater(held, 300)


class TooMuchTest(Case):
    def test_known(self):
        for told, many in (((), 0), (((1, "payab"),), 0), (((1, "payab"), (1, "payac")), 1), (((1, "payab"), (2, "payab")), 1),
                           (((1, "payab"), (1, "payab")), 0), (((1, "payab"), (2, "payac"), (3, "payab")), 2),
                           (((1, "payab"), (1, "payac"), (1, "x")), 0), (((0, "payab"), (0, "payac")), 1)):
            self.same(too_much(CHEAT, told), many)

    def test_tickets(self):
        for told, many in ((((1, "takeb"),), 1), (((1, "givea"), (2, "givea")), 1), (((1, "givea"), (1, "payab")), 1),
                           (((1, "givea"), (2, "takeb"), (3, "takeb")), 1), (((5, "takeb"), (6, "takeb"), (2, "payac")), 2)):
            self.same(too_much(SHOP, told), many)

    def test_forty_pairs_and_more(self):
        told = tuple([(number, "payab") for number in range(40)])
        self.same(too_much(CHEAT, told), 39)
        self.same(held_by(CHEAT, told), None)
        self.same(held_by(CHEAT, ((7, "payab"),) * 40), ((0, 1, 0), 0))
        for function in (too_much, held_by):
            self.fails(BadHeard, function, CHEAT, told + ((40, "payab"),), index=None)
            self.fails(BadHeard, function, CHEAT, (None,) * 41, index=None)


class WorstTest(Case):
    def test_one_coin_for_two(self):
        self.same([most_too_much(CHEAT, 1, CHEAT_TABLE, most) for most in range(10)], [0] * 8 + [1, 1])
        self.same(shows_worst(CHEAT, 1, CHEAT_TABLE, 8, TWICE), True)
        self.same(shows_worst(CHEAT, 1, CHEAT_TABLE, 9, TWICE + (("cut",),)), True)
        self.same(shows_worst(CHEAT, 1, CHEAT_TABLE, 9, TWICE), True)
        self.same(shows_worst(CHEAT, 1, CHEAT_TABLE, 7, TWICE), False)
        self.same(shows_worst(CHEAT, 1, CHEAT_TABLE, 8, TWICE + (("cut",),)), False)
        self.same(shows_worst(CHEAT, 1, CHEAT_TABLE, 7, (BOOT, ("cut",)) * 4), False)
        self.same(shows_worst(CHEAT, 1, CHEAT_TABLE, 9, TWICE[:-1]), False)
        self.same(shows_worst(CHEAT, 1, CHEAT_TABLE, 7, TWICE[:-1]), True)
        self.same(shows_worst(CHEAT, 1, CHEAT_TABLE, 9, ()), False)
        self.same(shows_worst(CHEAT, 1, CHEAT_TABLE, 0, ()), True)

    def test_against_all_stories(self):
        dice = random.Random(423)
        greatest = []
        while len(greatest) < 60:
            # One coin that can be used in several ways, and perhaps another one.
            first = dice.sample([("pay", 0, 1), ("pay", 0, 2), ("give", 0)], 2)
            till = (1, dice.randint(0, 1), 0), dice.randint(0, 1), tuple(first + dice.sample(DEEDS[3][4:], 1))
            if len(set(till[2])) < 3:
                continue
            machine = till_machine(till)
            marks, most = dice.choice([1, 1, 2]), dice.choice([5, 8])
            table = random_table(dice, machine, marks, 1)
            stories = stories_within(machine, table, "sealed", most)
            found = {story: told_too_much(till, tuple(Story(machine, table, story).heard)) for story in stories}
            greatest.append(max(found.values()))
            self.same(most_too_much(till, marks, table, most), greatest[-1])
            worst = [story for story, many in found.items() if many == greatest[-1]]
            less = [story for story, many in found.items() if many < greatest[-1]]
            for story in dice.sample(worst, min(4, len(worst))) + dice.sample(less, min(4, len(less))):
                self.same(shows_worst(till, marks, table, most, story), found[story] == greatest[-1])
        self.assertGreater(len([many for many in greatest if many > 0]), 5)

    def test_safe_tables_are_never_too_much(self):
        dice = random.Random(424)
        made = 0
        while made < 40:
            till = random_till(dice, 2)
            try:
                machine = till_machine(till)
                table = loud_table(machine, 2)
            except (TooMany, NoTable):
                continue
            made += 1
            self.assertTrue(is_safe(machine, 2, table))
            self.same(most_too_much(till, 2, table, 9), 0)
            self.same(shows_worst(till, 2, table, 9, ()), True)
            for _ in range(5):
                # So few steps say at most forty pairs.
                story = random_story(dice, machine, table, "sealed", dice.randint(0, 60))
                told, lives = heard(machine, 2, table, story), spoken(machine, 2, table, story)
                self.same(too_much(till, told), 0)
                longest = max(lives, key=len, default=())
                self.same(held_by(till, told), till_stands(till)[end_of(machine, longest)])

    def test_too_many_stands_come_ahead_of_the_rest(self):
        till = ((3, 3, 3), 0, (("pay", 0, 1), ("pay", 1, 2), ("pay", 2, 0)))
        self.fails(TooMany, most_too_much, till, None, None, None, most=40)
        self.fails(TooMany, shows_worst, till, None, None, None, None, most=40)

    def test_any_value(self):
        for value in NO_KIND + [list(TWICE), TWICE[:-1] + (("boot", (True, 0, (0,), 1)),), TWICE[:-1] + (("boot", [1]),),
                                (BOOT, ("ask", True)), TWICE + (("turn",),), TWICE[:-2] + (("seal",), ("cut",)), (BOOT,) * 8]:
            if value != ():
                self.same(shows_worst(CHEAT, 1, CHEAT_TABLE, 9, value), False)
                self.same(shows_worst(CHEAT, 1, CHEAT_TABLE, 0, value), False)


class ErrorsTest(Case):
    def test_no_till(self):
        deeds = (("pay", 0, 1),)
        wrong = [value for value in NO_KIND] + [
            ((1, 1), 1), ((1, 1), 1, deeds, 0), [(1, 1), 1, deeds], ((1,), 0, (("give", 0),)), ((1, 1, 1, 1), 0, deeds), ([1, 1], 0, deeds),
            ((1, 4), 0, deeds), ((1, -1), 0, deeds), ((1, True), 0, deeds), ((1, None), 0, deeds), ((), 0, deeds),
            ((1, 1), -1, deeds), ((1, 1), 3, deeds), ((1, 1), True, deeds), ((1, 1), None, deeds), ((1, 1), 0, ()), ((1, 1), 0, list(deeds)),
            ((1, 1), 0, deeds * 2), ((1, 1), 0, deeds + (("give", 0), ("pay", 0, 1))), ((1, 1, 1), 2, tuple(DEEDS[3][:7])),
            ((1, 1), 0, None), (None, 0, deeds), ("ab", 0, deeds)]
        for deed in (("pay", 0, 0), ("pay", 0, 2), ("pay", 2, 0), ("pay", 0), ("pay", 0, -1), ("pay", 0, True), ("pay", False, 1), ("give",),
                     ("give", 2), ("give", 0, 1), ("take", -1), ("take", True), ("take", None), ("Pay", 0, 1), ("", 0), (None, 0), ["give", 0],
                     None, (), "give", ("give", (0,)), ("pay",), ("pay", 0, 1, 0), ([], 0), ({}, 0, 1), ("pay", 0, 1, 2), ("pay", [], 0), 0):
            wrong.append(((1, 1), 1, (deed,)))
            wrong.append(((1, 1), 1, (("give", 0), deed)))
        for till in wrong:
            self.fails(BadHouse, till_machine, till)
            self.fails(BadHouse, till_stands, till)
            self.fails(BadHouse, held_by, till, None)
            self.fails(BadHouse, too_much, till, None)
            self.fails(BadHouse, most_too_much, till, None, None, None)
            self.fails(BadHouse, shows_worst, till, None, None, None, None)

    def test_good_tills(self):
        for purses, tickets, many in product(((0, 0), (3, 0), (1, 1, 0)), (0, 2), (1, 6)):
            self.assertGreater(len(till_machine((purses, tickets, tuple(DEEDS[len(purses)][:many])))), 0)

    def test_no_heard(self):
        for told in (None, [], {}, "", 0, True, [(1, "payab")], ((1, "payab"),) * 41):
            self.fails(BadHeard, held_by, CHEAT, told, index=None)
            self.fails(BadHeard, too_much, CHEAT, told, index=None)
        good = ((1, "payab"), (320, "abcdefgh"), (0, "x"))
        self.same(held_by(CHEAT, good), None)
        for pair in (None, (), (1,), (1, "payab", 0), [1, "payab"], ("payab", 1), (-1, "payab"), (321, "payab"), (True, "payab"),
                     (None, "payab"), (1, None), (1, ""), (1, "abcdefghi"), (1, "A"), (1, 1), (1, ("payab",)), ({}, "payab"), (1, []), "ab"):
            for at in range(4):
                told = good[:at] + (pair,) + good[at:] + (None,)
                self.fails(BadHeard, held_by, CHEAT, told, index=at)
                self.fails(BadHeard, too_much, CHEAT, told, index=at)

    def test_errors_from_left_to_right(self):
        for told, last in ((most_too_much, ()), (shows_worst, (None,))):
            for marks in (0, 5, True, None, "1", (1,), []):
                self.fails(BadMarks, told, CHEAT, marks, None, None, *last)
            self.fails(BadTable, told, CHEAT, 1, None, None, *last, index=None)
            self.fails(BadTable, told, CHEAT, 1, CHEAT_TABLE[:2], None, *last, index=None)
            self.fails(BadTable, told, CHEAT, 1, (((0,),), (), ()), None, *last, index=0)
            self.fails(BadTable, told, CHEAT, 1, (((0,), (0,)), (), ((0,),)), None, *last, index=2)
            self.fails(BadTable, told, CHEAT, 1, (((0,), (1,)), (), ()), None, *last, index=0)
            for most in (-1, 10, True, False, None, "1", (1,), [], {}, 10 ** 30):
                self.fails(BadNumber, told, CHEAT, 1, CHEAT_TABLE, most, *last)


if __name__ == "__main__":
    unittest.main()
