"""The examples of the interface, for each module that has landed."""

import unittest

EXAMPLES = r"""
# onelife/machines.py
>>> from onelife.machines import can_come, end_of, is_loud, lives, words_of
>>> coin = (((0, "yes"), (0, "no")),)
>>> [end_of(coin, (0, 1)), words_of(coin, (0, 1)), lives(coin, 1), can_come(coin), is_loud(coin)]
[0, ('yes', 'no'), ((), (0,), (1,)), (0,), True]
>>> end_of(coin, (2,))
raises BadLife()
# onelife/tables.py
>>> from onelife.tables import clash_of, is_apart, is_full, share, spelled, telling
>>> coin = (((0, "yes"), (0, "no")),)
>>> table = (((0,), (1,)),)
>>> [spelled(coin, 2, table, (0, 1, 1)), telling(coin, 2, table, (0, 1, 1)), is_apart(coin, 2, table)]
[(0, 1, 1), ((1, 'yes'), (2, 'no'), (3, 'no')), True]
>>> [clash_of(((0,), (1,), (0, 1))), share(2, ((0,), (1, 0))), is_full(2, ((0,), (1, 0))), is_full(2, ((0,), (1, 0), (1, 1)))]
[(0, 2), (3, 4), False, True]
# onelife/worlds.py
>>> from onelife.worlds import heard, is_dead, shelf_after, spoken, stands, two_lives, wheel_after
>>> coin = (((0, "yes"), (0, "no")),)
>>> table = (((0,), (1,)),)
>>> birth = (0, None, (), 0)
>>> story = (("boot", birth), ("ask", 0), ("cut",), ("boot", birth), ("ask", 1), ("turn",))
>>> [wheel_after(coin, 2, table, story), shelf_after(coin, 2, table, story), stands(coin, 2, table, story)]
[(1, 1), ((0, None, (), 0), (1, 0, (0,), 1), (1, 1, (1,), 1)), ('choice', (1,))]
>>> [heard(coin, 2, table, story), spoken(coin, 2, table, story), is_dead(coin, 2, table, story), two_lives(coin, 2, table, story)]
[((1, 'no'),), ((1,),), False, None]
>>> heard(coin, 2, table, (("boot", birth), ("turn",)))
raises BadStory(index=1)
# onelife/pairs.py
>>> from onelife.pairs import closed_paper, is_safe, parting, shows_closed, shows_parting
>>> coin = (((0, "yes"), (0, "no")),)
>>> table = (((0,), (1,)),)
>>> [is_safe(coin, 2, table), parting(coin, 2, table), len(closed_paper(coin, 2, table)), shows_closed(coin, 2, table, closed_paper(coin, 2, table))]
[True, None, 9, True]
>>> [is_safe(coin, 1, (((0,), (0,)),)), shows_parting(coin, 1, (((0,), (0,)),), ((0,), (1,))), closed_paper(coin, 1, (((0,), (0,)),))]
[False, True, None]
# onelife/tricks.py
>>> from onelife.tricks import shows_story, story_of
>>> from onelife.worlds import two_lives
>>> coin = (((0, "yes"), (0, "no")),)
>>> table = (((0,), (1,)),)
>>> birth = (0, None, (), 0)
>>> shows_story(coin, 2, table, (0,), (0, 0), (("boot", birth), ("ask", 0), ("turn",), ("ask", 0), ("turn",)))
True
>>> two_lives(coin, 1, (((0,), (0,)),), story_of(coin, 1, (((0,), (0,)),), (0,), (1,))) is None
False
>>> story_of(coin, 2, table, (0,), (1,))
raises NotAlong()
# onelife/codes.py
>>> from onelife.codes import cheapest_rows, least_longest, least_price, least_price_in_order, least_price_within, loud_table, rows_for, shows_cheapest
>>> [least_longest(2, 5), least_longest(1, 2), rows_for(2, (2, 1, 2)), rows_for(2, (1, 1, 1))]
[3, None, ((1, 0), (0,), (1, 1)), None]
>>> [least_price(2, (5, 1, 1, 1)), least_price_within(2, (5, 1, 1, 1), 2), least_price_in_order(2, (1, 5, 1))]
[13, 16, 13]
>>> [shows_cheapest(2, (3, 1), ((1,), (0,))), cheapest_rows(1, (2, 2)), loud_table((((0, "yes"), (0, "no")),), 2)]
[True, None, (((0,), (1,)),)]
# onelife/searches.py
>>> from onelife.searches import least_table, shows_least_table
>>> coin = (((0, "yes"), (0, "no")),)
>>> [least_table(coin, 1, 3), shows_least_table(coin, 2, 1, (((1,), (0,)),)), shows_least_table(coin, 2, 1, (((0,), (0,)),))]
[None, True, False]
# onelife/boxes.py
>>> from onelife.boxes import gathered, joined
>>> gathered((((0, "a"), (0, "b")),), 2)
(((0, 'aa'), (0, 'ab'), (0, 'ba'), (0, 'bb')),)
>>> joined((((0, "a"),),), (((1, "b"),), ()))
(((0, 'a'), (1, 'b')), ((1, 'a'),))
# onelife/led.py
>>> from onelife.led import death_of, filled, led_heard, led_is_dead, never_dies
>>> coin = (((0, "yes"), (0, "no")),)
>>> table = (((0,), (1,)),)
>>> story = (("boot", (0, None, (), ())), ("go", 1), ("go", 0))
>>> [led_heard(coin, 2, table, story), never_dies(coin, 2, table), death_of(coin, 3, table), led_is_dead(coin, 3, table, story[:1] + (("go", 2),))]
[((1, 'no'), (2, 'yes')), True, (2,), True]
>>> filled(coin, 3, table)
((((0, 'yes'), (0, 'no'), (0, None)),), (((0,), (1,), (2,)),))
>>> never_dies(coin, 2, (((0,), (0, 1)),))
raises NotApart(state=0)
# onelife/harms.py
>>> from onelife.harms import harm_of, shows_harm
>>> coin = (((0, "yes"), (0, "no")),)
>>> table = (((0,), (1,)),)
>>> [harm_of(coin, 2, table, "sealed", 6), shows_harm(coin, 2, table, "late", 6, ("dead", (("boot", (0, None, (), 0)), ("ask", 0), ("turn",))))]
[None, True]
>>> [harm_of(coin, 2, table, "open", 7)[0], harm_of(coin, 2, table, "early", 4)]
['two lives', None]
# onelife/texts.py
>>> from onelife.texts import read_machine, write_machine
>>> coin = (((0, "yes"), (0, "no")),)
>>> table = (((0,), (1,)),)
>>> [write_machine(coin, table), read_machine(" = 0\n -  0 1")]
['= 0\nyes 0 0\nno 0 1', ((((0, None),),), (((1,),),))]
>>> read_machine("= 0\nyes 1 0")
raises BadLine(line=2, word=2)
# onelife/benches.py
>>> from onelife.benches import Bench
>>> coin = (((0, "yes"), (0, "no")),)
>>> table = (((0,), (1,)),)
>>> bench = Bench(coin, 2, table)
>>> [bench.boot((0, None, (), 0)), bench.ask(1), bench.turn(), bench.wheel, bench.told, bench.harm(), bench.fitting()]
[(), (), ((1, 'no'),), (1, 1), ((1, 'no'),), None, ((1, 1, (1,), 1),)]
>>> bench.seal()
raises BadStep()
# onelife/means.py
>>> from onelife.means import cheapest_table, mean_pace, mean_total, shows_cheapest_table
>>> game = (((0, "on"), (1, "end")), ())
>>> [mean_total(game, 2, (((0,), (1, 0)), ()), ((1, 1), ())), mean_pace(game, 2, (((0,), (1, 0)), ()), ((1, 1), ())), mean_total(game, 2, (((0,), (1,)), ()), ((3, 1), ()))]
[(3, 1), None, (4, 1)]
>>> coin = (((0, "yes"), (0, "no"), (0, "stay")),)
>>> [mean_pace(coin, 2, (((0,), (1, 0), (1, 1)),), ((2, 1, 1),)), shows_cheapest_table(coin, 2, ((2, 1, 1),), (((1,), (0, 0), (0, 1)),)), cheapest_table((((0, "a"),),), 2, ((5,),))]
[(3, 2), True, (((0,),),)]
# onelife/programs.py
>>> from onelife.programs import cells_after, machine_of, said
>>> program = ((("coins", 3),), (("while", ("coins", False, 2), (("choose", (("put", (("set", "coins", "coins", 1),)), ("wait", ()))),)), ("say", "full")))
>>> [said(program, (0, 1, 0)), cells_after(program, (0, 1, 0)), said(program, (0, 0, 0)), machine_of(program)]
[('put', 'wait', 'put'), (2,), ('put', 'put', 'full'), (((1, 'put'), (0, 'wait')), ((2, 'put'), (1, 'wait')), ((3, 'full'),), ())]
# onelife/readers.py
>>> from onelife.programs import write_program
>>> from onelife.readers import read_program
>>> program = read_program("cell a 2\nif a = 0\nset a 1\nelse\nsay no\nend")
>>> [program, write_program(program)]
[((('a', 2),), (('if', ('a', True, 0), (('set', 'a', None, 1),), (('say', 'no'),)),)), 'cell a 2\nif a = 0\nset a 1\nelse\nsay no\nend']
>>> from onelife.readers import read_program
>>> read_program("say no\nend")
raises BadLine(line=2, word=1)
# onelife/tills.py
>>> from onelife.tills import held_by, till_machine, till_stands
>>> till = ((1, 0, 0), 1, (("pay", 0, 1), ("pay", 0, 2), ("give", 0), ("take", 1)))
>>> [till_machine(till)[0], till_stands(till)[1], held_by(till, ((2, "takeb"), (1, "givea"), (1, "givea")))]
[((1, 'payab'), (2, 'payac'), (3, 'givea')), ((0, 1, 0), 0), ((0, 1, 0), 0)]
>>> from onelife.tills import held_by, too_much
>>> till = ((1, 0, 0), 1, (("pay", 0, 1), ("pay", 0, 2)))
>>> [held_by(till, ((1, "payab"), (1, "payac"))), too_much(till, ((1, "payab"), (1, "payac")))]
[None, 1]
"""


def blocks():
    """The examples by the names of their files."""
    found = {}
    for line in EXAMPLES.strip().split("\n"):
        if line.startswith("# "):
            name = line[2:]
            found[name] = []
        else:
            found[name].append(line)
    return found


def shown(source, names):
    """The value of a line as it is shown, or the error that it raises with its fields."""
    try:
        return repr(eval(source, names))
    except ValueError as error:
        fields = ", ".join([f"{name}={value!r}" for name, value in vars(error).items()])
        return f"raises {type(error).__name__}({fields})"


class ExamplesTest(unittest.TestCase):
    def test_each_example_has_the_value_below_it(self):
        for name, lines in blocks().items():
            names, wanted = {}, 0
            for line, following in zip(lines, lines[1:] + [">>> "]):
                if line.startswith(">>> ") and following.startswith(">>> "):
                    exec(line[4:], names)
                elif line.startswith(">>> "):
                    wanted += 1
                    with self.subTest(file=name, line=line):
                        self.assertEqual(shown(line[4:], names), following)
            self.assertGreater(wanted, 0, name)

    def test_all_files_are_there(self):
        self.assertEqual(len(blocks()), 16)


if __name__ == "__main__":
    unittest.main()
