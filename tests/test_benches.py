"""A bench (point 19), in each manner (point 17)."""

import random
import unittest

from onelife.benches import Bench
from onelife.errors import BadMachine, BadManner, BadMarks, BadStep, BadTable
from onelife.stories import World
from onelife.worlds import heard, is_dead, shelf_after, stands, two_lives, wheel_after
from tests.manners import MANNERS, House, random_story
from tests.tools import BIRTH, COIN, COIN_TABLE, GAME, GAME_TABLE, NO_KIND, SAME_TABLE, Case, settings

LONG_TABLE = (((0, 1), (1, 0)),)


def done(bench, step):
    """Do a step of a story on a bench."""
    return getattr(bench, step[0])(*step[1:])


def seen(bench):
    """All that a bench shows."""
    return [bench.wheel, bench.shelf, bench.stand, bench.told, bench.story, bench.harm(), bench.fitting()]


class BenchTest(Case):
    def test_first_moment(self):
        for manner in MANNERS:
            bench = Bench(COIN, 2, COIN_TABLE, manner)
            self.same(seen(bench), [(0, None), (BIRTH,), ("off",), (), (), None, (BIRTH,)])
        self.same(seen(Bench(COIN, 2, COIN_TABLE)), seen(Bench(COIN, 2, COIN_TABLE, manner="sealed")))

    def test_sealed(self):
        bench = Bench(COIN, 2, LONG_TABLE)
        self.same([bench.boot(BIRTH), bench.stand], [(), ("choice", ())])
        self.same([bench.ask(1), bench.stand], [(), ("sealed", (1, 1, (1,), 1))])
        self.same([bench.turn(), bench.wheel, bench.stand], [(), (1, 1), ("sealed", (2, 0, (1,), 2))])
        self.same([bench.turn(), bench.wheel, bench.told], [((2, "no"),), (2, 0), ((2, "no"),)])
        self.same([bench.cut(), bench.stand, bench.fitting()], [(), ("off",), ((2, 0, (1,), 2),)])
        self.same([bench.boot(BIRTH), bench.stand], [(), ("mute",)])
        self.same([bench.cut(), bench.boot((2, 0, (1,), 2)), bench.told], [(), ((2, "no"),), ((2, "no"), (2, "no"))])
        self.same(bench.shelf, (BIRTH, (1, 1, (1,), 1), (2, 0, (1,), 2)))
        self.same(bench.story, (("boot", BIRTH), ("ask", 1), ("turn",), ("turn",), ("cut",), ("boot", BIRTH), ("cut",),
                                ("boot", (2, 0, (1,), 2))))

    def test_late(self):
        bench = Bench(COIN, 2, LONG_TABLE, "late")
        self.same([bench.boot(BIRTH), bench.ask(0), bench.stand, bench.shelf], [(), (), ("ready", (0,), 0), (BIRTH,)])
        self.fails(BadStep, bench.seal)
        self.same([bench.turn(), bench.stand, bench.wheel, bench.shelf], [(), ("bare", (0,), 1), (1, 0), (BIRTH,)])
        self.same([bench.harm(), bench.fitting()], ["dead", ()])
        for step, arguments in ((bench.turn, ()), (bench.ask, (0,)), (bench.boot, (BIRTH,))):
            self.fails(BadStep, step, *arguments)
        self.same([bench.seal(), bench.stand, bench.shelf], [(), ("ready", (0,), 1), (BIRTH, (1, 0, (0,), 1))])
        self.same([bench.harm(), bench.fitting()], [None, ((1, 0, (0,), 1),)])
        self.same([bench.turn(), bench.told, bench.stand], [(), (), ("bare", (0,), 2)])
        self.same([bench.seal(), bench.told, bench.stand], [((2, "yes"),), ((2, "yes"),), ("choice", (0,))])
        self.same([bench.cut(), bench.boot((2, 1, (0,), 2)), bench.stand], [(), ((2, "yes"),), ("choice", (0,))])
        self.same([bench.ask(0), bench.turn(), bench.cut(), bench.harm()], [(), (), (), "dead"])
        self.same([bench.boot((1, 0, (0,), 1)), bench.stand], [(), ("mute",)])
        self.same(bench.story[-2:], (("cut",), ("boot", (1, 0, (0,), 1))))

    def test_late_boots_in_the_midst_of_a_row(self):
        bench = Bench(COIN, 2, LONG_TABLE, "late")
        for step in (("boot", BIRTH), ("ask", 1), ("turn",), ("seal",), ("cut",), ("boot", (1, 1, (1,), 1))):
            self.same(done(bench, step), ())
        self.same(bench.stand, ("ready", (1,), 1))
        self.same([bench.turn(), bench.seal()], [(), ((2, "no"),)])

    def test_early(self):
        bench = Bench(COIN, 2, LONG_TABLE, "early")
        self.same([bench.boot(BIRTH), bench.ask(0), bench.stand], [(), (), ("sealed", (1, 0, (0,), 1))])
        self.same([bench.turn(), bench.stand], [((2, "yes"),), ("sealed", (2, 1, (0,), 2))])
        self.same([bench.cut(), bench.boot((1, 0, (0,), 1))], [(), ((2, "yes"),)])
        self.same([bench.turn(), bench.stand, bench.wheel], [(), ("choice", (0,)), (2, 1)])
        self.same([bench.cut(), bench.boot((2, 1, (0,), 2)), bench.stand], [(), (), ("choice", (0,))])
        self.same(bench.told, ((2, "yes"), (2, "yes")))
        short = Bench(COIN, 2, COIN_TABLE, "early")
        self.same([short.boot(BIRTH), short.ask(0), short.harm(), short.cut(), short.boot(BIRTH), short.ask(1)],
                  [(), ((1, "yes"),), None, (), (), ((1, "no"),)])
        self.same([short.harm(), short.told, short.wheel], ["two lives", ((1, "yes"), (1, "no")), (0, None)])

    def test_counted(self):
        bench = Bench(COIN, 2, COIN_TABLE, "counted")
        for step in (("boot", BIRTH), ("ask", 0), ("cut",), ("boot", BIRTH), ("ask", 1), ("turn",), ("cut",)):
            done(bench, step)
        self.same(bench.fitting(), ((1, 0, (0,), 1), (1, 1, (1,), 1)))
        self.same([bench.boot(BIRTH), bench.stand, bench.cut()], [(), ("mute",), ()])
        self.same([bench.boot((1, 0, (0,), 1)), bench.stand, bench.harm()], [((1, "yes"),), ("choice", (0,)), "two lives"])

    def test_open(self):
        bench = Bench(COIN, 2, COIN_TABLE, "open")
        for step in (("boot", BIRTH), ("ask", 0), ("turn",), ("cut",), ("boot", BIRTH), ("ask", 1)):
            done(bench, step)
        # The note bears one more than the wheel counts, and the number said is what the wheel counts.
        self.same(bench.stand, ("sealed", (2, 1, (1,), 1)))
        self.same([bench.turn(), bench.wheel, bench.harm()], [((2, "no"),), (2, 1), "two lives"])
        self.same(bench.fitting(), bench.shelf)
        self.same([bench.cut(), bench.boot((1, 0, (0,), 1))], [(), ((2, "yes"),)])

    def test_harm_stays(self):
        bench = Bench(COIN, 1, SAME_TABLE)
        for step in (("boot", BIRTH), ("ask", 0), ("cut",), ("boot", BIRTH), ("ask", 1), ("turn",), ("cut",),
                     ("boot", (1, 0, (0,), 1)), ("ask", 0), ("turn",)):
            self.same(bench.harm(), "two lives" if bench.told == ((1, "no"), (1, "yes")) else None)
            done(bench, step)
        self.same(bench.harm(), "two lives")

    def test_what_cannot_be_done_changes_nothing(self):
        dice = random.Random(191)
        for machine, marks, table in settings(192, 40):
            for manner in MANNERS:
                bench = Bench(machine, marks, table, manner)
                for step in random_story(dice, machine, table, manner, 12):
                    before = seen(bench)
                    can = House(machine, table, manner, bench.story).steps()
                    for wrong in self.all_steps(bench):
                        if wrong not in can:
                            with self.assertRaises(BadStep):
                                done(bench, wrong)
                    self.same(seen(bench), before)
                    done(bench, step)

    def all_steps(self, bench):
        notes = list(bench.shelf) + [(1, 0, (0,), 1), (2, 1, (0, 1), 1), (0, None, (), 1)]
        return [("boot", note) for note in notes] + [("ask", option) for option in range(-1, 7)] + [
            ("turn",), ("cut",), ("seal",)]

    def test_against_a_second_telling(self):
        dice = random.Random(193)
        harms = []
        for machine, marks, table in settings(194, 60):
            for manner in MANNERS:
                bench, house = Bench(machine, marks, table, manner), House(machine, table, manner)
                story = random_story(dice, machine, table, manner, 30)
                for step in story:
                    before = len(house.heard)
                    house.do(step)
                    self.same(done(bench, step), tuple(house.heard[before:]))
                    self.same([bench.wheel, bench.stand], [(house.count, house.mark), house.stand])
                    harms.append(bench.harm())
                    self.same(bench.harm(), house.harm())
                fitting = tuple([note for note in house.shelf if house.allows(note)])
                self.same(seen(bench)[1:], [tuple(house.shelf), house.stand, tuple(house.heard), story, house.harm(), fitting])
        self.assertGreater(min([harms.count(word) for word in (None, "two lives", "dead")]), 100)

    def test_sealed_is_the_world_of_stories(self):
        dice = random.Random(195)
        for machine, marks, table in settings(196, 80):
            story = random_story(dice, machine, table, "sealed", 25)
            bench = Bench(machine, marks, table)
            for step in story:
                done(bench, step)
            told = [function(machine, marks, table, story) for function in (wheel_after, shelf_after, stands, heard)]
            self.same(told, [bench.wheel, bench.shelf, bench.stand, bench.told])
            torn = two_lives(machine, marks, table, story) is not None
            dead = is_dead(machine, marks, table, story)
            self.same(bench.harm(), "two lives" if torn else "dead" if dead else None)

    def test_open_steps_are_those_that_can_be_done(self):
        dice = random.Random(197)
        for machine, marks, table in settings(198, 40):
            for manner in MANNERS:
                world, house = World(machine, table, manner), House(machine, table, manner)
                for step in random_story(dice, machine, table, manner, 20):
                    self.same(world.open_steps(), house.steps())
                    self.assertTrue(all([world.can_do(one) for one in world.open_steps()]))
                    world = world.behind(step)
                    house.do(step)

    def test_any_number_of_steps(self):
        bench = Bench(COIN, 2, COIN_TABLE)
        bench.boot(BIRTH)
        for at in range(300):
            bench.ask(at % 2)
            bench.turn()
        self.assertEqual([len(bench.story), bench.wheel, bench.harm()], [601, (300, 1), None])
        self.assertEqual(len(bench.told), 300)

    def test_what_is_shown_stays(self):
        bench = Bench(COIN, 2, COIN_TABLE)
        bench.boot(BIRTH)
        before = seen(bench)
        kept = repr(before)
        bench.ask(0)
        bench.turn()
        self.same(repr(before), kept)
        for name in ("wheel", "shelf", "stand", "told", "story"):
            with self.assertRaises(AttributeError):
                setattr(bench, name, ())

    def test_benches_are_apart(self):
        one, other = Bench(COIN, 2, COIN_TABLE), Bench(COIN, 2, COIN_TABLE)
        one.boot(BIRTH)
        one.ask(0)
        self.same(seen(other), seen(Bench(COIN, 2, COIN_TABLE)))

    def test_any_value(self):
        off, on = Bench(COIN, 2, COIN_TABLE), Bench(COIN, 2, COIN_TABLE)
        on.boot(BIRTH)
        for value in NO_KIND + [list(BIRTH), (False, None, (), 0), (0, None, [], 0), (0, None, ({},), 0), ("boot", BIRTH)]:
            self.fails(BadStep, off.boot, value)
            self.fails(BadStep, on.boot, value)
            self.fails(BadStep, on.ask, value)
            self.fails(BadStep, off.ask, value)
        self.fails(BadStep, on.boot, BIRTH)
        self.same(off.story, ())
        self.same(on.story, (("boot", BIRTH),))
        for step in (off.turn, off.cut, off.seal, on.turn, on.seal):
            self.fails(BadStep, step)

    def test_errors_from_left_to_right(self):
        self.fails(BadMachine, Bench, (), 0, None, None, index=None)
        self.fails(BadMarks, Bench, COIN, 0, None, None)
        self.fails(BadTable, Bench, COIN, 1, COIN_TABLE, None, index=0)
        for manner in (None, "", "Late", 0, True, [], {}, ("late",), ["late"]):
            self.fails(BadManner, Bench, GAME, 2, GAME_TABLE, manner)
        for value in NO_KIND:
            self.fails(BadMachine, Bench, value, 2, COIN_TABLE,
                       index=0 if isinstance(value, tuple) and 0 < len(value) < 41 else None)


if __name__ == "__main__":
    unittest.main()
