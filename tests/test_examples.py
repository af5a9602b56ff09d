"""The examples of the interface, for each module that has landed."""

import unittest

EXAMPLES = """
# onelife/machines.py
>>> from onelife.machines import can_come, end_of, is_loud, lives, words_of
>>> coin = (((0, "yes"), (0, "no")),)
>>> [end_of(coin, (0, 1)), words_of(coin, (0, 1)), lives(coin, 1), can_come(coin), is_loud(coin)]
[0, ('yes', 'no'), ((), (0,), (1,)), (0,), True]
>>> end_of(coin, (2,))
raises BadLife()
# onelife/tables.py
>>> from onelife.tables import clash_of, is_apart, is_full, share, spelled, telling
>>> coin = (((0, "yes"), (0, "no")),)
>>> table = (((0,), (1,)),)
>>> [spelled(coin, 2, table, (0, 1, 1)), telling(coin, 2, table, (0, 1, 1)), is_apart(coin, 2, table)]
[(0, 1, 1), ((1, 'yes'), (2, 'no'), (3, 'no')), True]
>>> [clash_of(((0,), (1,), (0, 1))), share(2, ((0,), (1, 0))), is_full(2, ((0,), (1, 0))), is_full(2, ((0,), (1, 0), (1, 1)))]
[(0, 2), (3, 4), False, True]
# onelife/worlds.py
>>> from onelife.worlds import heard, is_dead, shelf_after, spoken, stands, two_lives, wheel_after
>>> coin = (((0, "yes"), (0, "no")),)
>>> table = (((0,), (1,)),)
>>> birth = (0, None, (), 0)
>>> story = (("boot", birth), ("ask", 0), ("cut",), ("boot", birth), ("ask", 1), ("turn",))
>>> [wheel_after(coin, 2, table, story), shelf_after(coin, 2, table, story), stands(coin, 2, table, story)]
[(1, 1), ((0, None, (), 0), (1, 0, (0,), 1), (1, 1, (1,), 1)), ('choice', (1,))]
>>> [heard(coin, 2, table, story), spoken(coin, 2, table, story), is_dead(coin, 2, table, story), two_lives(coin, 2, table, story)]
[((1, 'no'),), ((1,),), False, None]
>>> heard(coin, 2, table, (("boot", birth), ("turn",)))
raises BadStory(index=1)
# onelife/pairs.py
>>> from onelife.pairs import closed_paper, is_safe, parting, shows_closed, shows_parting
>>> coin = (((0, "yes"), (0, "no")),)
>>> table = (((0,), (1,)),)
>>> [is_safe(coin, 2, table), parting(coin, 2, table), len(closed_paper(coin, 2, table)), shows_closed(coin, 2, table, closed_paper(coin, 2, table))]
[True, None, 9, True]
>>> [is_safe(coin, 1, (((0,), (0,)),)), shows_parting(coin, 1, (((0,), (0,)),), ((0,), (1,))), closed_paper(coin, 1, (((0,), (0,)),))]
[False, True, None]
# onelife/tricks.py
>>> from onelife.tricks import shows_story, story_of
>>> from onelife.worlds import two_lives
>>> coin = (((0, "yes"), (0, "no")),)
>>> table = (((0,), (1,)),)
>>> birth = (0, None, (), 0)
>>> shows_story(coin, 2, table, (0,), (0, 0), (("boot", birth), ("ask", 0), ("turn",), ("ask", 0), ("turn",)))
True
>>> two_lives(coin, 1, (((0,), (0,)),), story_of(coin, 1, (((0,), (0,)),), (0,), (1,))) is None
False
>>> story_of(coin, 2, table, (0,), (1,))
raises NotAlong()
# onelife/codes.py
>>> from onelife.codes import cheapest_rows, least_longest, least_price, least_price_in_order, least_price_within, loud_table, rows_for, shows_cheapest
>>> [least_longest(2, 5), least_longest(1, 2), rows_for(2, (2, 1, 2)), rows_for(2, (1, 1, 1))]
[3, None, ((1, 0), (0,), (1, 1)), None]
>>> [least_price(2, (5, 1, 1, 1)), least_price_within(2, (5, 1, 1, 1), 2), least_price_in_order(2, (1, 5, 1))]
[13, 16, 13]
>>> [shows_cheapest(2, (3, 1), ((1,), (0,))), cheapest_rows(1, (2, 2)), loud_table((((0, "yes"), (0, "no")),), 2)]
[True, None, (((0,), (1,)),)]
# onelife/searches.py
>>> from onelife.searches import least_table, shows_least_table
>>> coin = (((0, "yes"), (0, "no")),)
>>> [least_table(coin, 1, 3), shows_least_table(coin, 2, 1, (((1,), (0,)),)), shows_least_table(coin, 2, 1, (((0,), (0,)),))]
[None, True, False]
"""


def blocks():
    """The examples by the names of their files."""
    found = {}
    for line in EXAMPLES.strip().split("\n"):
        if line.startswith("# "):
            name = line[2:]
            found[name] = []
        else:
            found[name].append(line)
    return found


def shown(source, names):
    """The value of a line as it is shown, or the error that it raises with its fields."""
    try:
        return repr(eval(source, names))
    except ValueError as error:
        fields = ", ".join([f"{name}={value!r}" for name, value in vars(error).items()])
        return f"raises {type(error).__name__}({fields})"


class ExamplesTest(unittest.TestCase):
    def test_each_example_has_the_value_below_it(self):
        for name, lines in blocks().items():
            names, wanted = {}, 0
            for line, following in zip(lines, lines[1:] + [">>> "]):
                if line.startswith(">>> ") and following.startswith(">>> "):
                    exec(line[4:], names)
                elif line.startswith(">>> "):
                    wanted += 1
                    with self.subTest(file=name, line=line):
                        self.assertEqual(shown(line[4:], names), following)
            self.assertGreater(wanted, 0, name)

    def test_all_files_are_there(self):
        self.assertEqual(len(blocks()), 7)


if __name__ == "__main__":
    unittest.main()
