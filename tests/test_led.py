"""A machine that is led by a wheel that may slip (points 15 and 16)."""

import random
import unittest
from itertools import product

from onelife.errors import BadMachine, BadMarks, BadStory, BadTable, NotApart, TooMany
from onelife.led import death_of, filled, led_heard, led_is_dead, never_dies
from onelife.machines import can_come
from onelife.tables import is_apart, is_full
from tests.oracles import are_apart, begins, follow
from tests.tools import COIN, COIN_TABLE, GAME, GAME_TABLE, SAME_TABLE, Case, settings

BIRTH = (0, None, (), ())
BOOT = ("boot", BIRTH)
# Of three marks one leads nowhere.
HOLES = (((0,), (1, 0), (1, 2)),)
THREE = (((0, "a"), (0, "b"), (0, None)),)


class Telling:
    """A led story told once more: a note is looked up among all that the marks can have sealed."""

    def __init__(self, machine, marks, table, steps):
        self.machine, self.marks, self.table = machine, marks, table
        self.count, self.mark, self.shelf = 0, None, [BIRTH]
        self.power, self.life, self.begun = "off", None, None
        self.heard, self.bad = [], None
        for index, step in enumerate(steps):
            if step not in self.steps():
                self.bad = index
                return
            self.do(step)

    def steps(self):
        if self.power == "off":
            return [("boot", note) for note in self.shelf]
        go = [("go", mark) for mark in range(self.marks)] if self.power == "way" else []
        return [("cut",)] + go

    def do(self, step):
        if step[0] == "cut":
            self.power = "off"
        elif step[0] == "go":
            self.count, self.mark = self.count + 1, step[1]
            notes = [note for note in self.shelf if note[:2] == (self.count, self.mark)]
            self.stand([note for note in notes if note[2:] == (self.life, self.begun + (step[1],))][0])
        elif step[1][:2] == (self.count, self.mark):
            self.stand(step[1])
        else:
            self.power = "mute"

    def stand(self, note):
        self.power, self.life, self.begun, word = self.outcome(note)
        if word is not None:
            self.heard.append((self.count, word))
        if self.power == "way":
            for mark in range(self.marks):
                sealed = (self.count + 1, mark, self.life, self.begun + (mark,))
                if sealed not in self.shelf:
                    self.shelf.append(sealed)

    def outcome(self, note):
        _, _, life, begun = note
        state, word = follow(self.machine, self.table, life)[0], None
        for option, row in enumerate(self.table[state]):
            if row == begun:
                life, begun = life + (option,), ()
                state, word = self.machine[state][option]
                break
        if not self.machine[state]:
            return "end", life, begun, word
        goes = any(begins(begun, row) for row in self.table[state])
        return "way" if goes else "mute", life, begun, word

    def dead(self):
        return all(self.outcome(note)[0] == "mute" for note in self.shelf if note[:2] == (self.count, self.mark))


def random_story(dice, machine, marks, table, length):
    story, world = [], Telling(machine, marks, table, ())
    for _ in range(length):
        steps = [step for step in world.steps() if step != ("cut",) or dice.random() < 0.3] or world.steps()
        fitting = [step for step in steps if step[0] != "boot" or step[1][:2] == (world.count, world.mark)]
        story.append(dice.choice(fitting if fitting and dice.random() < 0.8 else steps))
        world.do(story[-1])
    return tuple(story)


def going(marks):
    return (BOOT,) + tuple([("go", mark) for mark in marks])


class LedStoryTest(Case):
    def test_the_wheel_decides(self):
        for marks, told in (((), ()), ((0,), ((1, "a"),)), ((1,), ()), ((1, 0), ((2, "b"),)), ((1, 2), ()),
                            ((1, 2, 0), ((3, "a"),)), ((1, 0, 1, 0), ((2, "b"), (4, "b")))):
            self.same(led_heard(THREE, 3, HOLES, going(marks)), told)
            self.same(led_is_dead(THREE, 3, HOLES, going(marks)), False)

    def test_a_mark_that_no_row_goes_on_with(self):
        for marks in ((2,), (1, 1), (0, 2), (1, 0, 1, 1)):
            self.same(led_is_dead(THREE, 3, HOLES, going(marks)), True)
            self.fails(BadStory, led_heard, THREE, 3, HOLES, going(marks + (0,)), index=len(marks) + 1)
        mute = going((2,)) + (("cut",),)
        self.same(led_heard(THREE, 3, HOLES, mute), ())
        self.same(led_is_dead(THREE, 3, HOLES, mute), True)
        # Its note is on the shelf, and with it the machine is mute again.
        self.same(led_is_dead(THREE, 3, HOLES, mute + (("boot", (1, 2, (), (2,))),)), True)
        self.fails(BadStory, led_heard, THREE, 3, HOLES, mute + (("boot", (1, 2, (), (2,))), ("go", 0)), index=4)

    def test_notes_of_each_mark_in_order(self):
        for mark in range(3):
            self.same(led_heard(THREE, 3, HOLES, (BOOT, ("cut",), ("boot", (1, mark, (), (mark,))))), ())
        self.fails(BadStory, led_heard, THREE, 3, HOLES, (BOOT, ("cut",), ("boot", (1, 3, (), (3,)))), index=2)
        self.fails(BadStory, led_heard, THREE, 2, (((0,), (1, 0), (1, 1)),), (BOOT, ("go", 2)), index=1)

    def test_boot_says_again_what_is_decided(self):
        story = going((1, 0)) + (("cut",), ("boot", (2, 0, (), (1, 0))))
        self.same(led_heard(THREE, 3, HOLES, story), ((2, "b"), (2, "b")))
        self.same(led_heard(THREE, 3, HOLES, story + (("go", 0),)), ((2, "b"), (2, "b"), (3, "a")))

    def test_elder_note_makes_mute(self):
        story = going((0,)) + (("cut",), BOOT)
        self.same(led_heard(THREE, 3, HOLES, story), ((1, "a"),))
        self.same(led_is_dead(THREE, 3, HOLES, story), False)
        self.fails(BadStory, led_heard, THREE, 3, HOLES, story + (("go", 0),), index=4)

    def test_only_at_its_end(self):
        story = going((1,))
        self.same(led_heard(GAME, 2, GAME_TABLE, story), ((1, "end"),))
        self.same(led_is_dead(GAME, 2, GAME_TABLE, story), False)
        for step in (("go", 0), ("go", 1)):
            self.fails(BadStory, led_heard, GAME, 2, GAME_TABLE, story + (step,), index=2)
        again = story + (("cut",), ("boot", (1, 1, (), (1,))))
        self.same(led_heard(GAME, 2, GAME_TABLE, again), ((1, "end"), (1, "end")))
        self.same(led_is_dead(GAME, 2, GAME_TABLE, again), False)
        self.fails(BadStory, led_heard, GAME, 2, GAME_TABLE, again + (("go", 0),), index=4)
        self.same(led_is_dead(((),), 2, ((),), (BOOT,)), False)
        self.fails(BadStory, led_is_dead, ((),), 2, ((),), (BOOT, ("go", 0)), index=1)

    def test_first_of_several_options_and_shorter_rows(self):
        machine = (((0, "a"), (0, "b"), (0, "c")),)
        table = (((1, 1), (0,), (0,)),)
        self.same(led_heard(machine, 2, table, going((0, 1, 1))), ((1, "b"), (3, "a")))
        # What is decided by a shorter row never comes to the longer one.
        self.same(led_heard(machine, 2, (((1, 1), (1,), (0,)),), going((1, 1))), ((1, "b"), (2, "b")))

    def test_against_a_second_telling(self):
        dice = random.Random(151)
        dead = 0
        for machine, marks, table in settings(152, 250, marks=3, longest=3):
            story = random_story(dice, machine, marks, table, dice.randint(0, 25))
            world = Telling(machine, marks, table, story)
            self.same(led_heard(machine, marks, table, story), tuple(world.heard))
            self.same(led_is_dead(machine, marks, table, story), world.dead())
            dead += world.dead()
            wrong = dice.choice([("boot", (1, 0, (), (0,))), ("go", 0), ("cut",), BOOT, ("go", marks)])
            longer = story + (wrong,)
            if Telling(machine, marks, table, longer).bad is not None:
                self.fails(BadStory, led_heard, machine, marks, table, longer, index=len(story))
        self.assertGreater(dead, 20)

    def test_all_that_is_heard_is_one_lifes_telling(self):
        dice = random.Random(153)
        for machine, marks, table in settings(154, 400, marks=3, longest=3):
            if not is_apart(machine, marks, table):
                continue
            told = led_heard(machine, marks, table, random_story(dice, machine, marks, table, 30))
            numbers = dict(told)
            self.assertEqual(len(set(told)), len(numbers))
            self.assertTrue(self.one_life_tells(machine, table, sorted(set(told))))

    def one_life_tells(self, machine, table, told):
        lives = [(0, 0, ())]
        most = max([number for number, _ in told], default=0)
        while lives:
            if any([set(told) <= set(words) for _, _, words in lives]):
                return True
            longer = []
            for state, count, words in lives:
                for (target, word), row in zip(machine[state], table[state]):
                    number = count + len(row)
                    said = words if word is None else words + ((number, word),)
                    if number <= most and (word is None or (number, word) in told):
                        longer.append((target, number, said))
            lives = sorted(set(longer))
        return False

    def test_no_steps_and_two_hundred(self):
        self.same([led_heard(COIN, 2, COIN_TABLE, ()), led_is_dead(COIN, 2, COIN_TABLE, ())], [(), False])
        story = going((0,) * 199)
        self.assertEqual(len(led_heard(COIN, 2, COIN_TABLE, story)), 199)
        self.same(led_is_dead(COIN, 2, COIN_TABLE, story), False)
        for told in (led_heard, led_is_dead):
            self.fails(BadStory, told, COIN, 2, COIN_TABLE, story + (("cut",),), index=None)
            for value in (None, [], list(story), "", {}, 0, True, "boot"):
                self.fails(BadStory, told, COIN, 2, COIN_TABLE, value, index=None)

    def test_no_step(self):
        wrong = [None, (), [], {}, "", "cut", 0, True, ("boot",), ("boot", None), BOOT + (0,), list(BOOT), ("go", 0),
                 ("boot", list(BIRTH)), ("boot", (0, None, ())), ("boot", (0, None, [], ())), ("boot", (0, None, (), [])), ("boot", (0, None, (), 0)),
                 ("boot", (False, None, (), ())), ("boot", (0, 0, (), ())), ("boot", BIRTH + (0,)), ("turn",), ("ask", 0),
                 ("seal",), ("cut",), ("boot", {}), ("boot", (0, None, ({},), ())), ("boot", ({}, [], (), ()))]
        for step in wrong:
            self.fails(BadStory, led_heard, COIN, 2, COIN_TABLE, (step,), index=0)
            self.fails(BadStory, led_is_dead, COIN, 2, COIN_TABLE, (BOOT, ("cut",), BOOT, ("cut",), step), index=4)
        for step in (("go",), ("go", True), ("go", False), ("go", 2), ("go", -1), ("go", None), ("go", 0, 0), BOOT, ["go", 0],
                     ("go", (0,)), ("go", []), ("turn",), ("ask", 0), ("seal",), ("cut", 0)):
            self.fails(BadStory, led_heard, COIN, 2, COIN_TABLE, (BOOT, step), index=1)
        for note in ((1, True, (), (1,)), (1, 1, (), (True,)), (True, 1, (), (1,))):
            self.fails(BadStory, led_heard, COIN, 2, COIN_TABLE, (BOOT, ("go", 1), ("cut",), ("boot", note)), index=3)

    def test_errors_from_left_to_right(self):
        for told in (led_heard, led_is_dead):
            self.fails(BadMachine, told, (), None, None, None, index=None)
            self.fails(BadMarks, told, COIN, 0, None, None)
            self.fails(BadTable, told, COIN, 2, (((0,), (2,)),), None, index=0)


class DeathTest(Case):
    def test_coin(self):
        self.same([never_dies(COIN, marks, COIN_TABLE) for marks in (2, 3, 4)], [True, False, False])
        self.same([death_of(COIN, marks, COIN_TABLE) for marks in (2, 3, 4)], [None, (2,), (2,)])
        self.same(death_of(THREE, 3, HOLES), (2,))
        self.same(death_of(COIN, 2, (((0,), (1, 1)),)), (1, 0))
        self.same(death_of(COIN, 2, (((0, 0, 0), (0, 1, 1, 1)),)), (1,))

    def test_deeper_in_a_later_state(self):
        machine = (((0, "a"), (1, "b")), ((2, None),), ())
        table = (((0,), (1, 0)), ((1,),), ())
        self.same(death_of(machine, 2, table), (1, 1))
        full = (((0,), (1,)), ((1,),), ())
        self.same(death_of(machine, 2, full), (1, 0))
        self.same(death_of(machine, 2, (((1,), (0,)), ((0,),), ())), (0, 1))
        # A wheel with one mark never slips.
        chain = (((1, "a"),), ((2, "b"),), ())
        self.same(never_dies(chain, 1, (((0, 0),), ((0,),), ())), True)
        self.same(death_of(chain, 1, (((0, 0),), ((0,),), ())), None)

    def test_states_without_options_and_that_never_come(self):
        self.same([never_dies(((),), 4, ((),)), death_of(((),), 4, ((),))], [True, None])
        machine = (((1, "a"), (1, "b")), (), ((0, "c"),))
        table = (((0,), (1,)), (), ((0, 0),))
        self.same([never_dies(machine, 2, table), death_of(machine, 2, table)], [True, None])

    def test_a_death_that_is_far_away(self):
        # The rows by which the states lead on have five marks each, so that the last state comes after 195 of them.
        full = ((1,), (0, 1), (0, 0, 1), (0, 0, 0, 1), (0, 0, 0, 0, 1), (0, 0, 0, 0, 0))
        machine = tuple([((0, None),) * 4 + ((at + 1, None),) * 2 for at in range(39)]) + (((0, None),) * 6,)
        self.same(death_of(machine, 2, (full,) * 39 + (full[:5] + ((0,) * 6,),)), (0,) * 195 + (0, 0, 0, 0, 0, 1))
        self.same(never_dies(machine, 2, (full,) * 39 + (full[:5] + ((0,) * 6,),)), False)
        self.same(never_dies(machine, 2, (full,) * 40), True)

    def test_against_all_led_stories(self):
        found = {True: 0, False: 0}
        for machine, marks, table in settings(161, 500, marks=3, longest=3):
            if not is_apart(machine, marks, table):
                clashing = [state for state in can_come(machine) if not are_apart(table[state])]
                for told in (never_dies, death_of, filled):
                    self.fails(NotApart, told, machine, marks, table, state=clashing[0])
                continue
            deaths = [marks_gone for length in range(5) for marks_gone in product(range(marks), repeat=length)
                      if self.ends_dead(machine, marks, table, marks_gone)]
            if never_dies(machine, marks, table):
                self.same([death_of(machine, marks, table), deaths], [None, []])
            else:
                least = death_of(machine, marks, table)
                self.same(led_is_dead(machine, marks, table, going(least)), True)
                self.assertTrue(len(least) > 4 or least == deaths[0])
            found[never_dies(machine, marks, table)] += 1
            self.same(never_dies(machine, marks, table),
                      all([is_full(marks, table[state]) for state in can_come(machine)]))
        self.assertGreater(min(found.values()), 25)

    def ends_dead(self, machine, marks, table, gone):
        world = Telling(machine, marks, table, going(gone))
        return world.bad is None and world.dead()

    def test_not_apart(self):
        machine = ((), ((0, "a"), (0, "b")))
        table = ((), ((0,), (0,)))
        self.same(never_dies(machine, 2, table), True)
        for told in (never_dies, death_of, filled):
            self.fails(NotApart, told, COIN, 1, SAME_TABLE, state=0)
            self.fails(NotApart, told, COIN, 2, (((0, 1), (0,)),), state=0)
            # The first state that can come, not the first that is come to.
            chain = (((2, "a"), (1, "b")), ((1, "a"), (1, "b")), ((2, "a"), (2, "b")))
            self.fails(NotApart, told, chain, 2, (((0,), (1,)), ((0,), (0,)), ((1,), (1,))), state=1)
            self.fails(BadMachine, told, None, None, None, index=None)
            self.fails(BadMarks, told, COIN, True, None)
            self.fails(BadTable, told, COIN, 2, (), index=None)


class FilledTest(Case):
    def test_behind_the_options_ascending(self):
        self.same(filled(COIN, 2, COIN_TABLE), (COIN, COIN_TABLE))
        self.same(filled(COIN, 2, (((1, 0), (1, 1)),)), ((COIN[0] + ((0, None),),), (((1, 0), (1, 1), (0,)),)))
        self.same(filled(COIN, 2, (((1, 1), (0, 1)),)), (
            (COIN[0] + ((0, None), (0, None)),), (((1, 1), (0, 1), (0, 0), (1, 0)),)))
        one = (((1, "a"),), ())
        self.same(filled(one, 2, (((0, 1, 0),), ())), (
            (((1, "a"), (0, None), (0, None), (0, None)), ()), (((0, 1, 0), (0, 0), (0, 1, 1), (1,)), ())))

    def test_leads_back_to_its_own_state(self):
        machine = (((1, "a"), (0, "b")), ((0, "c"),), ((0, "d"),))
        table = (((0,), (1,)), ((0,),), ((0, 0),))
        self.same(filled(machine, 2, table), (
            (machine[0], ((0, "c"), (1, None)), machine[2]), (table[0], ((0,), (1,)), table[2])))

    def test_what_is_filled_never_dies(self):
        made = 0
        for machine, marks, table in settings(171, 400, marks=3, longest=3):
            if not is_apart(machine, marks, table):
                continue
            needed = {state: self.fewest_more(marks, table[state]) for state in can_come(machine)}
            if max([len(machine[state]) + more for state, more in needed.items()]) > 6:
                self.fails(TooMany, filled, machine, marks, table, most=6)
                continue
            made += 1
            wider, rows = filled(machine, marks, table)
            self.same(never_dies(wider, marks, rows), True)
            for state, options in enumerate(machine):
                more = needed.get(state, 0)
                self.same(wider[state], options + ((state, None),) * more)
                self.same(rows[state][:len(options)], table[state])
                self.same(list(rows[state][len(options):]), sorted(rows[state][len(options):]))
                self.assertEqual(len(rows[state]), len(options) + more)
        self.assertGreater(made, 60)

    def fewest_more(self, marks, rows):
        """How many rows lack: by counting, for each beginning that is no row, the marks that lead nowhere."""
        heads = {row[:length] for row in rows for length in range(len(row))}
        ahead = {row[:length] for row in rows for length in range(1, len(row) + 1)}
        return len([1 for head in heads for mark in range(marks) if head + (mark,) not in ahead])

    def test_six_options_and_more(self):
        machine = (((0, "a"),),)
        self.assertEqual(len(filled(machine, 2, (((0,) * 5,),))[0][0]), 6)
        self.fails(TooMany, filled, machine, 2, (((0,) * 6,),), most=6)
        self.assertEqual(len(filled(machine, 1, (((0,) * 8,),))[0][0]), 1)
        self.fails(TooMany, filled, machine, 2, (((0,) * 8,),), most=6)
        # A state that never comes may lack more, and rows that are not apart come ahead of too many options.
        self.same(filled(((), ((0, "a"),)), 2, ((), ((0,) * 8,))), (((), ((0, "a"),)), ((), ((0,) * 8,))))
        two = (((1, "a"),), ((0, "b"), (0, "b")))
        self.fails(NotApart, filled, two, 2, (((0,) * 8,), ((0,), (0,))), state=1)


if __name__ == "__main__":
    unittest.main()
