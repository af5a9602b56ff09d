"""The examples of the interface, for each of its modules."""

import unittest

EXAMPLES = r"""
# onelife/machines.py
>>> from onelife.machines import can_come, end_of, is_loud, lives, words_of
>>> coin = (((0, "yes"), (0, "no")),)
>>> [end_of(coin, (0, 1)), words_of(coin, (0, 1)), lives(coin, 1), can_come(coin), is_loud(coin)]
[0, ('yes', 'no'), ((), (0,), (1,)), (0,), True]
>>> end_of(coin, (2,))
raises BadLife()
# onelife/tables.py
>>> from onelife.tables import clash_of, is_apart, is_full, share, spelled, telling
>>> coin = (((0, "yes"), (0, "no")),)
>>> table = (((0,), (1,)),)
>>> [spelled(coin, 2, table, (0, 1, 1)), telling(coin, 2, table, (0, 1, 1)), is_apart(coin, 2, table)]
[(0, 1, 1), ((1, 'yes'), (2, 'no'), (3, 'no')), True]
>>> [clash_of(((0,), (1,), (0, 1))), share(2, ((0,), (1, 0))), is_full(2, ((0,), (1, 0))), is_full(2, ((0,), (1, 0), (1, 1)))]
[(0, 2), (3, 4), False, True]
# onelife/worlds.py
>>> from onelife.worlds import heard, is_dead, shelf_after, spoken, stands, two_lives, wheel_after
>>> coin = (((0, "yes"), (0, "no")),)
>>> table = (((0,), (1,)),)
>>> birth = (0, None, (), 0)
>>> story = (("boot", birth), ("ask", 0), ("cut",), ("boot", birth), ("ask", 1), ("turn",))
>>> [wheel_after(coin, 2, table, story), shelf_after(coin, 2, table, story), stands(coin, 2, table, story)]
[(1, 1), ((0, None, (), 0), (1, 0, (0,), 1), (1, 1, (1,), 1)), ('choice', (1,))]
>>> [heard(coin, 2, table, story), spoken(coin, 2, table, story), is_dead(coin, 2, table, story), two_lives(coin, 2, table, story)]
[((1, 'no'),), ((1,),), False, None]
>>> heard(coin, 2, table, (("boot", birth), ("turn",)))
raises BadStory(index=1)
# onelife/pairs.py
>>> from onelife.pairs import closed_paper, is_safe, parting, shows_closed, shows_parting
>>> coin = (((0, "yes"), (0, "no")),)
>>> table = (((0,), (1,)),)
>>> [is_safe(coin, 2, table), parting(coin, 2, table), len(closed_paper(coin, 2, table)), shows_closed(coin, 2, table, closed_paper(coin, 2, table))]
[True, None, 9, True]
>>> [is_safe(coin, 1, (((0,), (0,)),)), shows_parting(coin, 1, (((0,), (0,)),), ((0,), (1,))), closed_paper(coin, 1, (((0,), (0,)),))]
[False, True, None]
# onelife/tricks.py
>>> from onelife.tricks import shows_story, story_of
>>> from onelife.worlds import two_lives
>>> coin = (((0, "yes"), (0, "no")),)
>>> table = (((0,), (1,)),)
>>> birth = (0, None, (), 0)
>>> shows_story(coin, 2, table, (0,), (0, 0), (("boot", birth), ("ask", 0), ("turn",), ("ask", 0), ("turn",)))
True
>>> two_lives(coin, 1, (((0,), (0,)),), story_of(coin, 1, (((0,), (0,)),), (0,), (1,))) is None
False
>>> story_of(coin, 2, table, (0,), (1,))
raises NotAlong()
# onelife/codes.py
>>> from onelife.codes import cheapest_rows, least_longest, least_price, least_price_in_order, least_price_within, loud_table, rows_for, shows_cheapest
>>> [least_longest(2, 5), least_longest(1, 2), rows_for(2, (2, 1, 2)), rows_for(2, (1, 1, 1))]
[3, None, ((1, 0), (0,), (1, 1)), None]
>>> [least_price(2, (5, 1, 1, 1)), least_price_within(2, (5, 1, 1, 1), 2), least_price_in_order(2, (1, 5, 1))]
[13, 16, 13]
>>> [shows_cheapest(2, (3, 1), ((1,), (0,))), cheapest_rows(1, (2, 2)), loud_table((((0, "yes"), (0, "no")),), 2)]
[True, None, (((0,), (1,)),)]
# onelife/searches.py
>>> from onelife.searches import least_table, shows_least_table
>>> coin = (((0, "yes"), (0, "no")),)
>>> [least_table(coin, 1, 3), shows_least_table(coin, 2, 1, (((1,), (0,)),)), shows_least_table(coin, 2, 1, (((0,), (0,)),))]
[None, True, False]
# onelife/boxes.py
>>> from onelife.boxes import gathered, joined
>>> gathered((((0, "a"), (0, "b")),), 2)
(((0, 'aa'), (0, 'ab'), (0, 'ba'), (0, 'bb')),)
>>> joined((((0, "a"),),), (((1, "b"),), ()))
(((0, 'a'), (1, 'b')), ((1, 'a'),))
# onelife/led.py
>>> from onelife.led import death_of, filled, led_heard, led_is_dead, never_dies
>>> coin = (((0, "yes"), (0, "no")),)
>>> table = (((0,), (1,)),)
>>> story = (("boot", (0, None, (), ())), ("go", 1), ("go", 0))
>>> [led_heard(coin, 2, table, story), never_dies(coin, 2, table), death_of(coin, 3, table), led_is_dead(coin, 3, table, story[:1] + (("go", 2),))]
[((1, 'no'), (2, 'yes')), True, (2,), True]
>>> filled(coin, 3, table)
((((0, 'yes'), (0, 'no'), (0, None)),), (((0,), (1,), (2,)),))
>>> never_dies(coin, 2, (((0,), (0, 1)),))
raises NotApart(state=0)
# onelife/harms.py
>>> from onelife.harms import harm_of, shows_harm
>>> coin = (((0, "yes"), (0, "no")),)
>>> table = (((0,), (1,)),)
>>> [harm_of(coin, 2, table, "sealed", 6), shows_harm(coin, 2, table, "late", 6, ("dead", (("boot", (0, None, (), 0)), ("ask", 0), ("turn",))))]
[None, True]
>>> [harm_of(coin, 2, table, "open", 7)[0], harm_of(coin, 2, table, "early", 4)]
['two lives', None]
# onelife/texts.py
>>> from onelife.texts import read_machine, write_machine
>>> coin = (((0, "yes"), (0, "no")),)
>>> table = (((0,), (1,)),)
>>> [write_machine(coin, table), read_machine(" = 0\n -  0 1")]
['= 0\nyes 0 0\nno 0 1', ((((0, None),),), (((1,),),))]
>>> read_machine("= 0\nyes 1 0")
raises BadLine(line=2, word=2)
# onelife/benches.py
>>> from onelife.benches import Bench
>>> coin = (((0, "yes"), (0, "no")),)
>>> table = (((0,), (1,)),)
>>> bench = Bench(coin, 2, table)
>>> [bench.boot((0, None, (), 0)), bench.ask(1), bench.turn(), bench.wheel, bench.told, bench.harm(), bench.fitting()]
[(), (), ((1, 'no'),), (1, 1), ((1, 'no'),), None, ((1, 1, (1,), 1),)]
>>> bench.seal()
raises BadStep()
# onelife/means.py
>>> from onelife.means import cheapest_table, mean_pace, mean_total, shows_cheapest_table
>>> game = (((0, "on"), (1, "end")), ())
>>> [mean_total(game, 2, (((0,), (1, 0)), ()), ((1, 1), ())), mean_pace(game, 2, (((0,), (1, 0)), ()), ((1, 1), ())), mean_total(game, 2, (((0,), (1,)), ()), ((3, 1), ()))]
[(3, 1), None, (4, 1)]
>>> coin = (((0, "yes"), (0, "no"), (0, "stay")),)
>>> [mean_pace(coin, 2, (((0,), (1, 0), (1, 1)),), ((2, 1, 1),)), shows_cheapest_table(coin, 2, ((2, 1, 1),), (((1,), (0, 0), (0, 1)),)), cheapest_table((((0, "a"),),), 2, ((5,),))]
[(3, 2), True, (((0,),),)]
# onelife/programs.py
>>> from onelife.programs import cells_after, machine_of, said
>>> program = ((("coins", 3),), (("while", ("coins", False, 2), (("choose", (("put", (("set", "coins", "coins", 1),)), ("wait", ()))),)), ("say", "full")))
>>> [said(program, (0, 1, 0)), cells_after(program, (0, 1, 0)), said(program, (0, 0, 0)), machine_of(program)]
[('put', 'wait', 'put'), (2,), ('put', 'put', 'full'), (((1, 'put'), (0, 'wait')), ((2, 'put'), (1, 'wait')), ((3, 'full'),), ())]
# onelife/readers.py
>>> from onelife.programs import write_program
>>> from onelife.readers import read_program
>>> program = read_program("cell a 2\nif a = 0\nset a 1\nelse\nsay no\nend")
>>> [program, write_program(program)]
[((('a', 2),), (('if', ('a', True, 0), (('set', 'a', None, 1),), (('say', 'no'),)),)), 'cell a 2\nif a = 0\nset a 1\nelse\nsay no\nend']
>>> from onelife.readers import read_program
>>> read_program("say no\nend")
raises BadLine(line=2, word=1)
# onelife/tills.py
>>> from onelife.tills import held_by, till_machine, till_stands
>>> till = ((1, 0, 0), 1, (("pay", 0, 1), ("pay", 0, 2), ("give", 0), ("take", 1)))
>>> [till_machine(till)[0], till_stands(till)[1], held_by(till, ((2, "takeb"), (1, "givea"), (1, "givea")))]
[((1, 'payab'), (2, 'payac'), (3, 'givea')), ((0, 1, 0), 0), ((0, 1, 0), 0)]
>>> from onelife.tills import held_by, too_much
>>> till = ((1, 0, 0), 1, (("pay", 0, 1), ("pay", 0, 2)))
>>> [held_by(till, ((1, "payab"), (1, "payac"))), too_much(till, ((1, "payab"), (1, "payac")))]
[None, 1]
# onelife/witnesses.py
>>> from onelife.witnesses import least_lot, one_life
>>> machine = (((1, "go"), (2, "stay")), ((0, "back"),), ())
>>> table = (((0,), (1,)), ((0, 0),), ())
>>> [one_life(machine, 2, table, ((4, "stay"), (1, "go"))), least_lot(machine, 2, table, ((4, "stay"), (1, "stay")))]
[(0, 0, 1), ((1, 'stay'), (4, 'stay'))]
# onelife/reports.py
>>> from onelife.reports import read_story, report, write_story
>>> machine = (((0, "yes"), (0, "no")),)
>>> table = (((0,), (1,)),)
>>> story = (("boot", (0, None, (), 0)), ("ask", 0), ("turn",), ("cut",))
>>> [report(machine, 2, table, story)[2], write_story(story), read_story(write_story(story)) == story]
['turn 1 by mark 0: at the choice of state 0, says yes at 1', 'boot 0 - - 0\nask 0\nturn\ncut', True]
>>> from onelife.reports import tell_lives
>>> machine = (((0, "yes"), (0, "no")),)
>>> table = (((0,), (1,)),)
>>> tell_lives(machine, 2, table, (0, 0), (0, 1))
('one says yes at 1, yes at 2', 'the other says yes at 1, no at 2', 'both turn 0', 'they turn otherwise at turn 2')
# onelife/unions.py
>>> from onelife.unions import joined_table, parted_life
>>> one, other = (((0, "a"),),), (((0, "b"),),)
>>> [joined_table(one, other, 2, (((0,),),), (((1,),),)), parted_life(one, other, (0, 1, 0))]
[(((0, 0), (1, 1)),), ((0, 0), (0,))]
# onelife/readings.py
>>> from onelife.readings import lives_at, marks_next, places_at, told_at
>>> coin = (((0, "yes"), (0, "no")),)
>>> table = (((0,), (1, 0)),)
>>> [lives_at(coin, 2, table, (0, 1)), places_at(coin, 2, table, (0, 1)), marks_next(coin, 2, table, (0, 1)), told_at(coin, 2, table, (0, 1, 0))]
[(((0, 1), 1),), ((0, 1, 1),), (0,), ((1, 'yes'), (3, 'no'))]
>>> [lives_at(coin, 2, table, (1, 1)), told_at(coin, 1, (((0,), (0,)),), (0,)), marks_next(coin, 2, table, ())]
[(), None, (0, 1)]
# onelife/counts.py
>>> from onelife.counts import count_lives, count_spelled, fewest_turns, life_number, most_turns, nth_life
>>> coin = (((0, "yes"), (0, "no")),)
>>> table = (((0,), (1, 0)),)
>>> [count_lives(coin, 10), count_spelled(coin, 2, table, 5), fewest_turns(coin, 2, table, 7), most_turns(coin, 2, table, 7)]
[1024, 8, 7, 14]
>>> [life_number(coin, (1, 0, 1)), nth_life(coin, 3, 5), fewest_turns(((),), 2, ((),), 1)]
[5, (1, 0, 1), None]
>>> nth_life(coin, 1, 2)
raises BadNumber()
# onelife/ports.py
>>> from onelife.ports import coins_behind, on_the_way, port_machine, port_stand
>>> ports = (0, 1, 1, True)
>>> machines = [port_machine(ports, side) for side in (0, 1)]
>>> tables = [tuple([tuple([(0,) if at == 0 else (1, 0) for at in range(len(state))]) for state in machine]) for machine in machines]
>>> story = ((1, ("boot", (0, None, (), 0))), (1, ("ask", 0)), (1, ("turn",)))
>>> [machines[1][0], port_stand(ports, 1, (0,)), coins_behind(ports, 2, tables[0], tables[1], story), on_the_way(ports, 2, tables[0], tables[1], story)]
[((1, 'outa'), (2, 'ina')), (0, 1, 0), 0, (0, 1)]
>>> from onelife.ports import coins_behind, most_coins, port_machine
>>> ports = (0, 1, 1, False)
>>> lanes = [tuple([tuple([(0,) for option in state]) for state in port_machine(ports, side)]) for side in (0, 1)]
>>> [most_coins(ports, 1, lanes[0], lanes[1], many) for many in (0, 6, 8)]
[1, 1, 2]
# onelife/families.py
>>> from onelife.families import count_apart, count_full, every_apart
>>> [count_apart(2, 2, 2), count_full(2, 2, 2), count_full(2, 3, 2), count_full(3, 3, 1), every_apart(2, 2, 1)]
[22, 2, 12, 6, (((0,), (1,)), ((1,), (0,)))]
# onelife/budgets.py
>>> from onelife.budgets import longer_life, most_longer, most_options, never_longer, teeth_for
>>> coin = (((0, "yes"), (0, "no")),)
>>> table = (((0,), (1, 0)),)
>>> [most_options(coin, 2, table, 9), teeth_for(coin, 2, table, 9), never_longer(coin, 2, (((0,), (1,)),), table), most_longer(coin, 2, table, (((0,), (1,)),))]
[9, 18, True, None]
>>> [longer_life(coin, 2, table, (((0,), (1,)),)), most_longer((((1, "a"),), ()), 2, (((0, 1, 1),), ()), (((0,),), ())), longer_life(coin, 2, table, table)]
[(1,), 2, None]
# onelife/keepers.py
>>> from onelife.keepers import idle_parts, lasting_notes, new_words, unspoken, without_idle
>>> coin = (((0, "yes"), (0, "no")),)
>>> table = (((0,), (1,)),)
>>> birth = (0, None, (), 0)
>>> story = (("boot", birth), ("cut",), ("boot", birth), ("ask", 0), ("cut",), ("boot", birth), ("ask", 1), ("turn",), ("cut",), ("boot", birth), ("cut",))
>>> [lasting_notes(coin, 2, table, story), idle_parts(coin, 2, table, story), len(without_idle(coin, 2, table, story))]
[((1, 1, (1,), 1),), ((0, 1), (9, 10)), 7]
>>> [new_words(coin, 2, table, story), unspoken(coin, 2, table, story), unspoken(coin, 2, table, story[:5])]
[((1, 'no'),), (), ((),)]
"""


def blocks():
    """The examples by the names of their files."""
    found = {}
    for line in EXAMPLES.strip().split("\n"):
        if line.startswith("# "):
            name = line[2:]
            found[name] = []
        else:
            found[name].append(line)
    return found


def shown(source, names):
    """The value of a line as it is shown, or the error that it raises with its fields."""
    try:
        return repr(eval(source, names))
    except ValueError as error:
        fields = ", ".join([f"{name}={value!r}" for name, value in vars(error).items()])
        return f"raises {type(error).__name__}({fields})"


class ExamplesTest(unittest.TestCase):
    def test_each_example_has_the_value_below_it(self):
        for name, lines in blocks().items():
            names, wanted = {}, 0
            for line, following in zip(lines, lines[1:] + [">>> "]):
                if line.startswith(">>> ") and following.startswith(">>> "):
                    exec(line[4:], names)
                elif line.startswith(">>> "):
                    wanted += 1
                    with self.subTest(file=name, line=line):
                        self.assertEqual(shown(line[4:], names), following)
            self.assertGreater(wanted, 0, name)

    def test_all_files_are_there(self):
        self.assertEqual(len(blocks()), 25)


if __name__ == "__main__":
    unittest.main()
