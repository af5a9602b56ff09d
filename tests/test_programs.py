"""A language of programs (point 40) and how it is written (point 41)."""

import random
import unittest
from itertools import product

from onelife.errors import BadLife, BadProgram, Endless, TooMany
from onelife.machines import can_come, end_of, words_of
from onelife.programs import cells_after, machine_of, said, write_program
from tests.scripts import play, random_program
from tests.tools import NO_KIND, Case

EVER = ("while", ("a", True, 0), ())
A2 = (("a", 2),)


def said_or_none(program, life):
    """What the package tells of a life, in the oracle's words."""
    try:
        return said(program, life), cells_after(program, life)
    except Endless:
        return ("never",)
    except BadLife:
        return ("none",)


def stands_told(program, most):
    """The machine of a program with its stands told by parts still to do, at most so many; None for more."""
    sizes = [size for _, size in program[0]]
    places = {name: at for at, (name, _) in enumerate(program[0])}

    def run(cells, todo):
        for _ in range(4000):
            if not todo or todo[0][0] == "stop":
                return cells, ()
            part, rest = todo[0], todo[1:]
            if part[0] in ("say", "choose"):
                return cells, todo
            if part[0] == "set":
                at = places[part[1]]
                value = part[3] + (0 if part[2] is None else cells[places[part[2]]])
                cells, todo = cells[:at] + (value % sizes[at],) + cells[at + 1:], rest
                continue
            name, equal, number = part[1]
            holds = (cells[places[name]] == number) is equal
            todo = part[2] + (todo if part[0] == "while" else rest) if holds else (part[3:] + ((),))[0] + rest
        raise Endless

    stands, machine = [run((0,) * len(sizes), program[1])], []
    for cells, todo in stands:
        if len(machine) == most:
            return None
        ways = [] if not todo else [(todo[0][1], ())] if todo[0][0] == "say" else todo[0][1]
        options = []
        for word, block in ways:
            behind = run(cells, block + todo[1:])
            if behind not in stands:
                stands.append(behind)
            options.append((stands.index(behind), word))
        machine.append(tuple(options))
    return tuple(machine)


def in_a_loop(dice, program):
    """A program that goes on with another one for ever, or till it stops, choosing how its cells change."""
    cells = tuple([(name, dice.randint(3, 6)) for name, _ in program[0]]) + (("v", 2),)
    options = tuple([("w", (("set", name, name, dice.randint(1, 2)),)) for name, _ in cells[:-1]])
    return cells, (("while", ("v", True, 0), (("choose", options + ((None, program[1]),)),)),)


class RunsTest(Case):
    def test_settings(self):
        cells = (("a", 4), ("b", 3), ("c", 6))
        program = (cells, (("set", "a", None, 3), ("set", "b", "a", 2), ("set", "c", "a", 5), ("set", "a", "a", 2)))
        self.same(cells_after(program, ()), (1, 2, 2))
        self.same(cells_after((cells, (("set", "b", None, 5), ("set", "a", "b", 0))), ()), (2, 2, 0))
        self.same(cells_after((cells, (("set", "a", "a", 0),)), ()), (0, 0, 0))
        self.same(cells_after(((), ()), ()), ())
        self.same(machine_of(((), ())), ((),))
        self.same(machine_of((cells, ())), ((),))

    def test_tests(self):
        for equal, number, wanted in ((True, 1, 1), (False, 1, 0), (True, 0, 0), (False, 0, 1)):
            program = (A2 + (("b", 2),), (
                ("set", "a", None, 1), ("if", ("a", equal, number), (("set", "b", None, 1),), (("set", "b", None, 0),))))
            self.same(cells_after(program, ()), (1, wanted))

    def test_runs_go_on_by_themselves(self):
        program = (A2, (("say", "x"), ("set", "a", None, 1), ("say", "y"), ("set", "a", None, 0)))
        self.same([cells_after(program, life) for life in ((), (0,), (0, 0))], [(0,), (1,), (0,)])
        self.same([said(program, life) for life in ((), (0,), (0, 0))], [(), ("x",), ("x", "y")])
        for life in ((1,), (0, 1), (0, 0, 0), (-1,)):
            self.fails(BadLife, said, program, life)
            self.fails(BadLife, cells_after, program, life)

    def test_stop_ends_all(self):
        program = (A2, (("choose", (("go", (("stop",), ("say", "never"))), (None, ()))), ("set", "a", None, 1), ("say", "z")))
        self.same([said(program, (0,)), cells_after(program, (0,))], [("go",), (0,)])
        self.fails(BadLife, said, program, (0, 0))
        self.same([said(program, (1,)), cells_after(program, (1,)), said(program, (1, 0))], [(), (1,), ("z",)])
        self.same(machine_of(program), (((1, "go"), (2, None)), (), ((3, "z"),), ()))

    def test_all_ends_of_the_same_values_are_one(self):
        program = (A2, (("choose", (("p", (("stop",),)), ("q", ()), ("r", (("set", "a", None, 1),)), ("s", (("stop",),)))),))
        self.same(machine_of(program), (((1, "p"), (1, "q"), (2, "r"), (1, "s")), (), ()))

    def test_the_same_still_to_do_is_one_stand(self):
        program = ((), (("choose", (("p", (("say", "x"),)), ("q", (("say", "x"),)))), ("say", "y")))
        self.same(machine_of(program), (((1, "p"), (1, "q")), ((2, "x"),), ((3, "y"),), ()))
        nested = ((), (("choose", (("p", (("say", "x"), ("say", "y"))), ("q", (("choose", (("r", (("say", "x"),)),)), ("say", "y"))))),))
        self.same(machine_of(nested), (((1, "p"), (2, "q")), ((3, "x"),), ((1, "r"),), ((4, "y"),), ()))

    def test_whiles_come_back(self):
        program = (A2, (("while", ("a", True, 0), (("choose", (("on", ()), ("off", (("set", "a", None, 1),)))),)), ("say", "end")))
        self.same(machine_of(program), (((0, "on"), (1, "off")), ((2, "end"),), ()))
        self.same(said(program, (0,) * 38 + (1, 0)), ("on",) * 38 + ("off", "end"))

    def test_equal_options_and_six_of_them(self):
        program = ((), (("choose", (("a", ()), ("a", ()), (None, ()), (None, (("say", "b"),)), ("c", ()), ("d", ()))),))
        self.same(machine_of(program), (((1, "a"), (1, "a"), (1, None), (2, None), (1, "c"), (1, "d")), (), ((1, "b"),)))
        self.same([said(program, (2,)), said(program, (3, 0)), said(program, (5,))], [(), ("b",), ("d",)])
        self.fails(BadLife, said, program, (6,))

    def test_four_cells_of_two_and_six_values(self):
        cells = (("a", 6), ("b", 6), ("c", 2), ("abcdefgh", 6))
        # An odometer that runs by itself through all its values.
        turn = ("set", "a", "a", 1)
        carry = ("if", ("a", True, 0), (("set", "b", "b", 1), ("if", ("b", True, 0), (("set", "c", "c", 1),), ())), ())
        program = (cells, (turn, ("while", ("c", False, 1), (turn, carry)), ("say", "done")))
        self.same([cells_after(program, ()), said(program, (0,))], [(0, 0, 1, 0), ("done",)])

    def test_against_a_second_telling(self):
        dice = random.Random(401)
        seen = {"never": 0, "none": 0, "said": 0}
        for _ in range(1500):
            program = random_program(dice)
            for _ in range(4):
                life = tuple([dice.randint(0, 2) if dice.random() < 0.9 else 5 for _ in range(dice.randint(0, 5))])
                told = play(program, life)
                self.same(said_or_none(program, life), told[:2])
                seen[told[0] if told[0] in ("never", "none") else "said"] += 1
        self.assertGreater(min(seen.values()), 200)

    def test_lives_of_forty_options(self):
        program = (A2, (("while", ("a", True, 0), (("say", "x"),)),))
        self.same(said(program, (0,) * 40), ("x",) * 40)
        self.fails(BadLife, said, program, (0,) * 41)
        self.fails(BadLife, cells_after, program, (0,) * 41)

    def test_no_life(self):
        program = ((), (("choose", (("a", ()), ("b", ()))), ("say", "c")))
        for life in [value for value in NO_KIND if value != ()] + [[0], (True,), (False,), (2,), (0, True), (0, 1), (0, 0, 0)]:
            self.fails(BadLife, said, program, life)
            self.fails(BadLife, cells_after, program, life)


class EndlessTest(Case):
    def endless(self, program, life):
        self.fails(Endless, said, program, life)
        self.fails(Endless, cells_after, program, life)

    def test_at_the_start(self):
        for program in ((A2, (EVER,)), (A2, (("while", ("a", False, 1), (("set", "a", "a", 2),)), ("say", "x"))),
                        (A2, (("while", ("a", True, 0), (("set", "a", None, 1), ("if", ("a", True, 1), (
                            ("set", "a", None, 0),), ()))),))):
            for life in ((), (0,), (5,), (None,), ("x",), (True,), (0,) * 40):
                self.endless(program, life)
            self.fails(Endless, machine_of, program)
            # What is no tuple of at most so many options is no life, wherever the run would come.
            for life in (None, [], 0, "", (0,) * 41):
                self.fails(BadLife, said, program, life)
                self.fails(BadLife, cells_after, program, life)

    def test_behind_the_first_options(self):
        program = (A2, (("say", "x"), ("choose", (("p", (EVER,)), ("q", ()))), ("say", "y")))
        self.same(said(program, (0, 1, 0)), ("x", "q", "y"))
        for life in ((0, 0), (0, 0, 0), (0, 0, 9), (0, 0, None), (0, 0) + (True,) * 38):
            self.endless(program, life)
        for life in ((1,), (1, 0), (0, 2), (0, 2, 0), (None, 0, 0), (0, True)):
            self.fails(BadLife, said, program, life)
            self.fails(BadLife, cells_after, program, life)
        self.same(said(program, (0,)), ("x",))
        self.fails(Endless, machine_of, program)

    def test_long_runs_that_end(self):
        cells = (("a", 6), ("b", 6), ("c", 6), ("d", 6))
        block = ()
        for name, later in (("d", None), ("c", "d"), ("b", "c"), ("a", "b")):
            inner = block + ((("set", later, None, 0),) if later else ())
            block = (("while", (name, False, 5), inner + (("set", name, name, 1),)),)
        self.same(cells_after((cells, block), ()), (5, 0, 0, 0))
        self.same(machine_of((cells, block)), ((),))

    def test_behind_one_of_the_first_forty_states(self):
        for many, error in ((38, Endless), (39, Endless), (40, TooMany), (45, TooMany)):
            # The choice is the state of this number, and behind it there are more than forty states.
            options = (("p", (("say", "z"),) * 20), ("q", (EVER,)))
            program = (A2, (("say", "x"),) * many + (("choose", options),))
            if error is Endless:
                self.fails(Endless, machine_of, program)
            else:
                self.fails(TooMany, machine_of, program, most=40)

    def test_forty_states_and_more(self):
        self.assertEqual(len(machine_of(((), (("say", "x"),) * 39))), 40)
        for many in (40, 41, 80):
            self.fails(TooMany, machine_of, ((), (("say", "x"),) * many), most=40)
        # At the choice there are 6 times 6 stands, and behind it as many ends.
        cells = (("a", 6), ("b", 6), ("c", 2))
        on = (("p", (("set", "a", "a", 1),)), ("q", (("set", "b", "b", 1),)))
        off = on + (("r", (("set", "c", None, 1),)),)
        self.assertEqual(len(machine_of((cells, (("while", ("c", True, 0), (("choose", on),)),)))), 36)
        self.fails(TooMany, machine_of, (cells, (("while", ("c", True, 0), (("choose", off),)),)), most=40)
        self.same(cells_after((cells, (("while", ("c", True, 0), (("choose", off),)),)), (0, 1, 1, 2)), (1, 2, 1))


class MachineTest(Case):
    def test_words_are_those_of_the_program(self):
        dice = random.Random(402)
        made = 0
        for _ in range(400):
            program = random_program(dice)
            try:
                machine = machine_of(program)
            except (Endless, TooMany):
                continue
            made += 1
            self.same(can_come(machine), tuple(range(len(machine))))
            for length in range(5):
                for life in product(range(3), repeat=length):
                    told = play(program, life)
                    if told[0] == "none":
                        self.fails(BadLife, end_of, machine, life)
                    else:
                        self.same(words_of(machine, life), told[0])
                        self.same([word for _, word in machine[end_of(machine, life)]], told[2])
        self.assertGreater(made, 150)

    def test_states_are_the_unlike_stands(self):
        dice = random.Random(403)
        seen = {Endless: 0, TooMany: 0, None: 0}
        for _ in range(1500):
            program = random_program(dice, cells=3, parts=30, deep=5, words=("a", None))
            if dice.random() < 0.2:
                program = in_a_loop(dice, program)
            try:
                wanted = stands_told(program, 40)
            except Endless:
                self.fails(Endless, machine_of, program)
                seen[Endless] += 1
                continue
            if wanted is None:
                self.fails(TooMany, machine_of, program, most=40)
            else:
                self.same(machine_of(program), wanted)
            seen[TooMany if wanted is None else None] += 1
        self.assertGreater(min(seen.values()), 20)


def nested(deep, inner=()):
    """A block within which others are so many deep, itself counted."""
    block = inner
    for at in range(deep - 1):
        block = ((("if", ("a", True, 0), block, ()), ("while", ("a", True, 0), block), ("choose", ((None, block),)))[at % 3],)
    return block


class NoProgramTest(Case):
    def bad(self, program):
        for told in (machine_of, write_program):
            self.fails(BadProgram, told, program)
        for told in (said, cells_after):
            self.fails(BadProgram, told, program, None)

    def test_other_values(self):
        for value in NO_KIND + [((),), ((), (), ()), [(), ()], ((), []), ([], ()), (None, ()), ((), None), ("", ""), ((), "stop")]:
            self.bad(value)

    def test_cells(self):
        four = (("a", 2), ("b", 6), ("c", 3), ("abcdefgh", 2))
        self.same(cells_after((four, ()), ()), (0, 0, 0, 0))
        for cells in (four + (("e", 2),), (("a", 2), ("a", 3)), (("a", 1),), (("a", 7),), (("a", True),), (("a", None),),
                      (("A", 2),), (("", 2),), (("abcdefghi", 2),), (("a", 2, 2),), (("a",),), (["a", 2],), (None,), ((2, "a"),),
                      (([], 2),), (("a", 2), ("b", 2), ("a", 2)), (("a1", 2),)):
            self.bad((cells, ()))

    def test_parts(self):
        good = [("set", "a", "a", 5), ("set", "a", None, 0), ("if", ("a", True, 1), (), ()), ("while", ("a", False, 1), ()),
                ("choose", ((None, ()),)), ("choose", (("x", ()),) * 6), ("say", "abcdefgh"), ("stop",)]
        for part in good:
            write_program((A2, (part,)))
            self.bad((A2, (part, part + (None,))))
            self.bad((A2, part))
            self.bad((A2, (list(part),)))
            self.bad((A2, [part]))
            self.bad((A2, (part[:-1],)))
            self.bad((A2, ((part[0].upper(),) + part[1:],)))
        for part in (None, (), [], "stop", 0, {}, ("stop", None), ("end",), ("else",), (["say"], "x"), ("cell", "a", 2),
                     ("set", "b", None, 0), ("set", "a", "b", 0), ("set", "a", None, 6), ("set", "a", None, -1), ("set", "a", "a", True),
                     ("set", None, None, 0), ("set", "a", None, None), ("set", [], None, 0), ("set", "a", [], 0), ("set", "a", 0, 0),
                     ("say", None), ("say", ""), ("say", "abcdefghi"), ("say", "A"), ("say", 1), ("say", []),
                     ("choose", ()), ("choose", ((None, ()),) * 7), ("choose", ((None,),)), ("choose", ((None, (), ()),)),
                     ("choose", (("A", ()),)), ("choose", ((0, ()),)), ("choose", ((None, None),)), ("choose", [(None, ())]),
                     ("choose", ([None, ()],)), ("choose", None), ("choose", (((), ()),)), ("choose", ((None, (None,)),))):
            self.bad((A2, (part,)))
            self.bad((A2, (("say", "x"), ("if", ("a", True, 0), (), (part,)))))
        for test in (None, (), ("a", True), ("a", True, 0, 0), ["a", True, 0], ("b", True, 0), ("a", 1, 0), ("a", None, 0),
                     ("a", 0, 0), ("a", True, 2), ("a", True, -1), ("a", True, True), ("a", True, False), ("a", True, None),
                     ([], True, 0), (None, True, 0), ("a", "=", 0)):
            self.bad((A2, (("if", test, (), ()),)))
            self.bad((A2, (("while", test, ()),)))
        for block in (None, [], "", 0, (None,), {}):
            self.bad((A2, (("if", ("a", True, 0), block, ()),)))
            self.bad((A2, (("if", ("a", True, 0), (), block),)))
            self.bad((A2, (("while", ("a", True, 1), block),)))
            self.bad((A2, (("choose", ((None, ()), (None, block))),)))

    def test_eight_deep_and_nine(self):
        for inner in ((), (("say", "x"),)):
            write_program((A2, nested(8, inner)))
            self.bad((A2, nested(9, inner)))
        for part in (("if", ("a", True, 0), (), ()), ("while", ("a", True, 0), ()), ("choose", ((None, ()),))):
            write_program((A2, nested(7, (part,))))
            self.bad((A2, nested(8, (part,))))
        deep = ()
        for _ in range(3000):
            deep = (("while", ("a", True, 0), deep),)
        self.bad((A2, deep))

    def test_eighty_parts_and_more(self):
        self.assertEqual(len(write_program(((), (("say", "x"),) * 80)).split("\n")), 80)
        self.bad(((), (("say", "x"),) * 81))
        inner = (("say", "x"),) * 39
        for more, good in ((0, True), (1, False)):
            program = ((), (("choose", (("a", inner), ("b", inner))),) + (("stop",),) * (1 + more))
            if good:
                self.same(said(program, (1, 0)), ("b", "x"))
            else:
                self.bad(program)
        full = (("stop",),) * 80
        for _ in range(7):
            full = (("choose", ((None, full),) * 6),)
        self.bad(((), full))


class WriteTest(Case):
    def test_each_kind_of_line(self):
        for part, lines in (
                (("set", "a", None, 0), ["set a 0"]), (("set", "a", None, 5), ["set a 5"]), (("set", "a", "a", 0), ["set a a"]),
                (("set", "a", "a", 1), ["set a a 1"]), (("say", "x"), ["say x"]), (("stop",), ["stop"]),
                (("if", ("a", True, 0), (), ()), ["if a = 0", "end"]),
                (("if", ("a", False, 1), (("stop",),), (("say", "y"),)), ["if a != 1", "stop", "else", "say y", "end"]),
                (("if", ("a", False, 1), (), (("say", "y"),)), ["if a != 1", "else", "say y", "end"]),
                (("while", ("a", True, 1), (("say", "x"), ("say", "y"))), ["while a = 1", "say x", "say y", "end"]),
                (("choose", ((None, ()), ("x", (("stop",),)))), ["choose", "option -", "option x", "stop", "end"])):
            self.same(write_program((A2, (part,))), "\n".join(["cell a 2"] + lines))
            self.same(write_program((A2, (part, part))), "\n".join(["cell a 2"] + lines * 2))

    def test_cells_and_nothing(self):
        self.same(write_program(((), ())), "")
        self.same(write_program(((("b", 6), ("a", 2)), ())), "cell b 6\ncell a 2")

    def test_blocks_in_blocks(self):
        program = (A2, (("while", ("a", True, 0), (("choose", (("p", (("if", ("a", True, 1), (), (("stop",),)),)),)),)), ("say", "q")))
        self.same(write_program(program), "cell a 2\nwhile a = 0\nchoose\noption p\nif a = 1\nelse\nstop\nend\nend\nend\nsay q")


if __name__ == "__main__":
    unittest.main()
