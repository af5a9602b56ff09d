"""Lives that part, and papers (points 7, 8 and 10)."""

import random
import unittest

from onelife.errors import BadMachine, BadMarks, BadTable, TooMany
from onelife.machines import is_loud
from onelife.pairs import closed_paper, is_safe, parting, shows_closed, shows_parting
from onelife.tables import is_apart
from tests.oracles import do_part, fewest_marks, follow, least_paper, lives_within, pair_key, wanted_beside
from tests.tools import COIN, COIN_TABLE, GAME, GAME_TABLE, NO_KIND, SAME_TABLE, Case, in_a_row, settings

CHOICE = (0, None, 0)


def late_words(lengths, words=("a", "b")):
    """Silent options one behind another with rows of so many marks 0, behind them one mark and one of the words."""
    many = len(lengths)
    machine = tuple([((at + 1, None),) for at in range(many)]) + (tuple([(many + 1, word) for word in words]), ())
    table = tuple([((0,) * length,) for length in lengths]) + (((0,),) * len(words), ())
    return machine, table


class PartingTest(Case):
    def holds(self, machine, marks, table, found, wanted):
        """Whether two lives part by just so many marks, and shows_parting says so of both orders."""
        one, other = found
        self.assertTrue(do_part(machine, table, one, other), (machine, table, found))
        self.assertEqual(max([len(follow(machine, table, life)[1]) for life in found]), wanted)
        self.same(shows_parting(machine, marks, table, (one, other)), True)
        self.same(shows_parting(machine, marks, table, (other, one)), True)

    def test_safe_ones(self):
        for machine, marks, table in ((COIN, 2, COIN_TABLE), (GAME, 2, GAME_TABLE), (((),), 1, ((),)),
                                      (COIN, 2, (((0,), (1, 0)),)), ((((0, None), (0, None)),), 1, (((0,), (0, 0)),))):
            self.same(is_safe(machine, marks, table), True)
            self.same(parting(machine, marks, table), None)
            self.same(shows_parting(machine, marks, table, None), True)
            self.same(shows_parting(machine, marks, table, ((0,), (1,))), False)

    def test_unlike_words_at_one_mark(self):
        self.same(is_safe(COIN, 1, SAME_TABLE), False)
        self.holds(COIN, 1, SAME_TABLE, parting(COIN, 1, SAME_TABLE), 1)
        self.same(shows_parting(COIN, 1, SAME_TABLE, ((0,), (1, 0))), False)
        self.same(shows_parting(COIN, 1, SAME_TABLE, None), False)

    def test_one_says_a_word_and_the_other_says_one_later(self):
        machine = (((0, "a"), (1, None)), ((2, None),), ((2, "b"), (2, None)))
        table = (((0,), (0, 0)), ((0,),), ((0, 0, 0), (0,)))
        self.same(is_safe(machine, 1, table), False)
        self.holds(machine, 1, table, parting(machine, 1, table), 6)
        # Each life by itself may go on in another way, if only the longer one spells as few marks.
        self.same(shows_parting(machine, 1, table, ((0,) * 6, (1, 0, 0))), True)
        self.same(shows_parting(machine, 1, table, ((0,) * 7, (1, 0, 0))), False)
        self.same(shows_parting(machine, 1, table, ((0,), (1, 0, 1, 0))), False)

    def test_alike_words_at_unlike_numbers_part(self):
        table = (((0,), (0, 0)),)
        machine = (((0, "a"), (0, "a")),)
        self.holds(machine, 1, table, parting(machine, 1, table), 2)
        self.same(shows_parting(machine, 1, table, ((0,), (1,))), True)
        self.same(shows_parting(machine, 1, table, ((0, 0), (1,))), True)

    def test_no_word_any_more(self):
        machine = (((1, "a"), (2, None)), (), ((2, None),))
        self.same(is_safe(machine, 1, (((0,), (0,)), (), ((0,),))), True)
        # With a word of a state to which state 2 leads, they part.
        machine = (((1, "a"), (2, None)), (), ((2, None), (3, None)), ((1, "b"),))
        table = (((0,), (0,)), (), ((0,), (0,)), ((0,),))
        self.holds(machine, 1, table, parting(machine, 1, table), 3)

    def test_row_on_the_way_says_its_word_later(self):
        machine = (((1, "a"), (1, "a")), ())
        self.same(is_safe(machine, 1, (((0,), (0, 0)), ())), False)
        self.same(is_safe((((1, "a"), (1, None)), ()), 1, (((0,), (0, 0)), ())), True)

    def test_state_that_never_comes(self):
        machine = (((0, "a"),), ((1, "a"), (1, "b")))
        self.same(is_safe(machine, 1, (((0,),), ((0,), (0,)))), True)

    def test_by_just_forty_marks_and_by_more(self):
        machine, table = late_words((8, 8, 8, 8, 7))
        self.holds(machine, 1, table, parting(machine, 1, table), 40)
        for lengths in ((8, 8, 8, 8, 8), (8,) * 30):
            machine, table = late_words(lengths)
            self.same(is_safe(machine, 1, table), False)
            self.same(closed_paper(machine, 1, table), None)
            self.fails(TooMany, parting, machine, 1, table, most=40)
            for value in (None, ((0,) * 6, (0,) * 5 + (1,)), True):
                self.fails(TooMany, shows_parting, machine, 1, table, value, most=40)
            machine, table = late_words(lengths, ("a", "a"))
            self.same(parting(machine, 1, table), None)

    def test_forty_options(self):
        machine = tuple([((at + 1, None),) for at in range(38)]) + (((38, "a"), (39, "b")), ())
        table = (((0,),),) * 38 + (((0,), (0, 0)), ())
        found = parting(machine, 1, table)
        self.holds(machine, 1, table, found, 40)
        self.same(shows_parting(machine, 1, table, ((0,) * 41, found[1])), False)
        self.same(shows_parting(machine, 1, table, ((0,) * 40, (0,) * 38 + (1,))), True)

    def test_against_all_short_lives(self):
        parted = 0
        for machine, marks, table in settings(41, 400, longest=3):
            wanted = fewest_marks(machine, table, 6)
            found = parting(machine, marks, table)
            self.same(is_safe(machine, marks, table), found is None)
            self.same(is_safe(machine, marks, table), least_paper(machine, table) is not None)
            if found is not None:
                parted += 1
                many = max([len(follow(machine, table, life)[1]) for life in found])
                self.assertEqual(many if many <= 6 else None, wanted)
                self.holds(machine, marks, table, found, many)
            else:
                self.assertIsNone(wanted)
        self.assertTrue(100 < parted < 300, parted)

    def test_shows_parting_against_all_short_lives(self):
        for machine, marks, table in settings(43, 60, states=2, options=2):
            fewest = fewest_marks(machine, table, 5)
            known = [life for life, _, _ in lives_within(machine, table, 5)]
            for one in known[:12]:
                for other in known:
                    longest = max([len(follow(machine, table, life)[1]) for life in (one, other)])
                    wanted = longest == fewest and do_part(machine, table, one, other)
                    self.same(shows_parting(machine, marks, table, (one, other)), wanted)

    def test_loud_machines(self):
        loud = 0
        for machine, marks, table in settings(47, 600, words=("a", "b", "c", "d", None)):
            if is_loud(machine):
                loud += 1
                self.same(is_safe(machine, marks, table), is_apart(machine, marks, table))
        self.assertGreater(loud, 100)

    def test_apart_rows_are_safe(self):
        for machine, marks, table in settings(53, 200):
            if is_apart(machine, marks, table):
                self.same(is_safe(machine, marks, table), True)

    def test_any_value(self):
        values = NO_KIND + [((0,), (1,), ()), [(0,), (1,)], ([0], (1,)), ((0,), [1]), ((False,), (1,)), ((0,), (True,)),
                            ((0,), None), ((0,), (2,)), ((0,), {}), ((0,),), ((), ()), ((0,), (0,)), "ab"]
        for value in values:
            self.same(shows_parting(COIN, 1, SAME_TABLE, value), False)
            self.same(shows_parting(COIN, 2, COIN_TABLE, value), value is None)


class PaperTest(Case):
    def test_least_papers(self):
        for machine, marks, table in settings(59, 300, longest=3) + [(GAME, 2, GAME_TABLE), (((),), 1, ((),))]:
            wanted = least_paper(machine, table)
            self.same(closed_paper(machine, marks, table), wanted)
            if wanted is not None:
                self.same(shows_closed(machine, marks, table, wanted), True)

    def test_coin(self):
        paper = closed_paper(COIN, 2, COIN_TABLE)
        first, second = (0, 0, 0), (0, 1, 0)
        self.same(paper, tuple([(one, other) for one in (CHOICE, first, second) for other in (CHOICE, first, second)]))

    def test_no_pair_may_be_left_out(self):
        for machine, marks, table in ((COIN, 2, COIN_TABLE), (COIN, 2, (((0, 1), (0, 0)),))):
            paper = closed_paper(machine, marks, table)
            for at in range(len(paper)):
                self.same(shows_closed(machine, marks, table, paper[:at] + paper[at + 1:]), False)

    def test_papers_with_more_pairs(self):
        # State 1 never comes, but its pairs may be on a paper, if those that they need are, too.
        machine = (((0, "a"),), ((1, "a"), (1, "b")), ())
        table = (((0,),), ((0,), (1,)), ())
        least = closed_paper(machine, 2, table)
        self.assertEqual(len(least), 4)
        inner = tuple([((1, one, 0), (1, other, 0)) for one in (None, 0, 1) for other in (None, 0, 1)])
        self.same(shows_closed(machine, 2, table, least + inner), True)
        self.same(shows_closed(machine, 2, table, least + inner[1:]), False)
        self.same(shows_closed(machine, 2, table, least + (((2, None, 0), (2, None, 0)),)), True)
        # A pair at which unlike words are said, or one word while the other place can still say one.
        self.same(shows_closed(machine, 1, (((0,),), ((0,), (0,)), ()), least), True)
        self.same(shows_closed(machine, 1, (((0,),), ((0,), (0,)), ()), least + (((1, 0, 0), (1, 1, 0)),)), False)
        self.same(shows_closed(machine, 2, (((0,),), ((0, 0), (0,)), ()), least + (((1, 0, 0), (1, 1, 0)),)), False)
        self.same(shows_closed(machine, 2, (((0,),), ((0, 0), (1,)), ()), least + (((1, 0, 0), (1, 1, 0)),)), True)

    def test_no_other_word_any_more(self):
        # At the pair of both options the first one says its word, while the second one never can say one.
        machine, table = (((1, "a"), (1, None)), ()), (((0,), (0,)), ())
        self.same(closed_paper(machine, 1, table), least_paper(machine, table))
        self.assertNotIn(((1, None, 0), (1, None, 0)), [pair for pair in closed_paper(machine, 1, table)
                                                        if wanted_beside(machine, table, *pair) is None])
        self.same(shows_closed((((1, "a"), (1, None)), ((1, "b"),)), 2, (((0,), (0,)), ((1,),)),
                               closed_paper(machine, 1, table)), False)

    def test_start_must_be_on_it(self):
        machine, table = (((1, None),), ()), (((0,),), ())
        end = ((1, None, 0), (1, None, 0))
        paper = closed_paper(machine, 1, table)
        self.same(shows_closed(machine, 1, table, paper), True)
        self.same(shows_closed(machine, 1, table, (end,)), False)
        self.same(shows_closed(((),), 1, ((),), ((CHOICE, CHOICE),)), True)

    def test_order(self):
        paper = closed_paper(COIN, 2, COIN_TABLE)
        dice = random.Random(61)
        for _ in range(20):
            mixed = list(paper)
            dice.shuffle(mixed)
            self.same(shows_closed(COIN, 2, COIN_TABLE, tuple(mixed)), tuple(mixed) == paper)
        self.same(shows_closed(COIN, 2, COIN_TABLE, paper[:1] + paper), False)
        self.same(shows_closed(COIN, 2, COIN_TABLE, paper + paper[-1:]), False)
        self.assertEqual(list(paper), sorted(paper, key=pair_key))

    def test_four_thousand_pairs_and_more(self):
        sizes = [(6, 8)] * 13 + [(3, 8), (1, 4)]
        machine, table = in_a_row(sizes)
        paper = closed_paper(machine, 1, table)
        self.assertEqual(len(paper), 4000)
        self.same(shows_closed(machine, 1, table, paper), True)
        self.same(shows_closed(machine, 1, table, paper[:-1]), False)
        machine, table = in_a_row(sizes[:-1] + [(1, 5)])
        self.same(is_safe(machine, 1, table), True)
        self.fails(TooMany, closed_paper, machine, 1, table, most=4000)
        self.same(shows_closed(machine, 1, table, least_paper(machine, table)), False)
        machine, table = in_a_row([(6, 8)] * 39)
        self.fails(TooMany, closed_paper, machine, 1, table, most=4000)
        # If it isn't safe there is none, however many pairs come first.
        machine = machine[:-2] + (((39, "a"), (39, "b")) * 3, ())
        self.same(closed_paper(machine, 1, table), None)

    def test_any_value(self):
        paper = closed_paper(COIN, 2, COIN_TABLE)
        wrong = [None, CHOICE, [], {}, "", (0, 2, 0), (0, 0, 1), (1, None, 0), (0, None, 1), (0, -1, 0), (0, 0, -1),
                 (False, None, 0), (0, None, False), (0, True, 0), (0, 0), (0, 0, 0, 0), [0, 0, 0], (0, {}, 0),
                 ([], None, 0), (0, None, None), (None, None, 0), (0, 10 ** 30, 0)]
        for place in wrong[:1] + wrong[2:]:
            for pair in ((place, CHOICE), (CHOICE, place), (place, place)):
                self.same(shows_closed(COIN, 2, COIN_TABLE, (pair,) + paper), False)
                self.same(shows_closed(COIN, 2, COIN_TABLE, paper + (pair,)), False)
        for at, (one, other) in enumerate(paper):
            for place in wrong[:1] + wrong[2:]:
                self.same(shows_closed(COIN, 2, COIN_TABLE, paper[:at] + ((place, other),) + paper[at + 1:]), False)
        values = NO_KIND + [list(paper), (paper,), paper + (None,), paper[:-1] + (list(paper[-1]),),
                            paper[:-1] + (paper[-1] + (CHOICE,),), paper[:-1] + (paper[-1][:1],)]
        for value in values:
            self.same(shows_closed(COIN, 2, COIN_TABLE, value), False)

    def test_truth_values_in_a_paper(self):
        paper = closed_paper(COIN, 2, COIN_TABLE)
        for at, (one, other) in enumerate(paper):
            for place in (one, other):
                for part in range(3):
                    if place[part] in (0, 1) and place[part] is not None:
                        changed = place[:part] + (bool(place[part]),) + place[part + 1:]
                        pair = tuple([changed if old == place else old for old in (one, other)])
                        self.same(shows_closed(COIN, 2, COIN_TABLE, paper[:at] + (pair,) + paper[at + 1:]), False)


class ErrorsTest(Case):
    def test_errors_from_left_to_right(self):
        for function in (is_safe, parting, closed_paper):
            self.fails(BadMachine, function, None, None, None, index=None)
            self.fails(BadMarks, function, COIN, True, None)
            self.fails(BadTable, function, COIN, 2, (((0,), (2,)),), index=0)
        for function in (shows_parting, shows_closed):
            self.fails(BadMachine, function, (None,), None, None, None, index=0)
            self.fails(BadMarks, function, COIN, True, None, None)
            self.fails(BadTable, function, COIN, 2, (((0,), (2,)),), None, index=0)


if __name__ == "__main__":
    unittest.main()
