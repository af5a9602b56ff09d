"""Machines with their tables as text (point 18)."""

import random
import unittest

from onelife.errors import BadLine, BadMachine, BadString, BadTable
from onelife.texts import read_machine, write_machine
from tests.tools import COIN, COIN_TABLE, GAME, GAME_TABLE, NO_KIND, Case, settings

WORDS = ["=", "-", "a", "abcdefgh", "abcdefghi", "A", "0", "1", "2", "3", "4", "00", "01", "39", "40", "-1", "+1", "a1", "\t"]


class Line:
    """What a line's words are to be, told once more: (place, whether the word may stand there)."""

    def __init__(self, states, options):
        self.states, self.options = states, options

    def wrong(self, words):
        if words[:1] == ["="]:
            wanted = [self.states < 40, words[1:2] == [str(self.states)]]
            if False in wanted:
                return wanted.index(False) + 1
            return 3 if words[2:] else None
        if not words or self.states == 0 or self.options == 6:
            return 1
        letters = "abcdefghijklmnopqrstuvwxyz"
        if words[0] != "-" and not (0 < len(words[0]) < 9 and set(words[0]) <= set(letters)):
            return 1
        if words[1:2] not in [[str(number)] for number in range(40)]:
            return 2
        for at in range(2, max(3, len(words))):
            if at == 10 or words[at:at + 1] not in [["0"], ["1"], ["2"], ["3"]]:
                return at + 1
        return None


def first_wrong(text):
    """The line and the word that a text is wrong at, None if it is right."""
    states, options, leads = 0, 0, []
    for number, line in enumerate(text.split("\n"), 1):
        words = [word for word in line.split(" ") if word != ""]
        wrong = Line(states, options).wrong(words)
        if wrong is not None:
            return number, wrong
        if words[0] == "=":
            states, options = states + 1, 0
        else:
            options += 1
            leads.append((number, int(words[1])))
    return next(((number, 2) for number, state in leads if state >= states), None)


class WriteTest(Case):
    def test_written(self):
        self.same(write_machine(COIN, COIN_TABLE), "= 0\nyes 0 0\nno 0 1")
        self.same(write_machine(GAME, GAME_TABLE),
                  "= 0\non 0 0 1\nend 1 1\n- 0 0 0\n= 1\n= 2\nnever 2 1\n- 0 1 0")
        self.same(write_machine(((),), ((),)), "= 0")
        self.same(write_machine((((0, "abcdefgh"),),), (((3, 2, 1, 0, 3, 2, 1, 0),),)), "= 0\nabcdefgh 0 3 2 1 0 3 2 1 0")

    def test_forty_states(self):
        machine = tuple([((39 - at, None),) for at in range(40)])
        table = (((3,),),) * 40
        text = write_machine(machine, table)
        self.assertEqual(text.split("\n")[20:22], ["= 10", "- 29 3"])
        self.same(read_machine(text), (machine, table))

    def test_there_and_back(self):
        for machine, _, table in settings(201, 200, states=12, options=6, marks=4, longest=8, words=("a", "no", None)):
            text = write_machine(machine, table)
            self.same(read_machine(text), (machine, table))
            self.assertIsNone(first_wrong(text))

    def test_errors(self):
        for value in NO_KIND:
            self.fails(BadMachine, write_machine, value, None,
                       index=0 if isinstance(value, tuple) and 0 < len(value) < 41 else None)
        for table, index in ((None, None), ((), None), ((((0,),),), 0), ((((4,), (0,)),), 0), ((((0,), (True,)),), 0)):
            self.fails(BadTable, write_machine, COIN, table, index=index)
        self.fails(BadTable, write_machine, GAME, GAME_TABLE[:2] + (((0,),),), index=2)


class ReadTest(Case):
    def test_spaces(self):
        self.same(read_machine("  =   0 \nyes  0    0\n   no 0 1     "), (COIN, COIN_TABLE))
        self.same(read_machine("=  0\n= 1  "), (((), ()), ((), ())))

    def test_dash_is_no_word(self):
        self.same(read_machine("= 0\n- 0 3"), ((((0, None),),), (((3,),),)))

    def wrong(self, text, line, word):
        self.fails(BadLine, read_machine, text, line=line, word=word)
        self.assertEqual(first_wrong(text), (line, word))

    def test_void_lines(self):
        for text, line in (("", 1), ("\n= 0", 1), ("   ", 1), ("= 0\n", 2), ("= 0\n\n= 1", 2), ("= 0\na 0 0\n  \n", 3)):
            self.wrong(text, line, 1)

    def test_ahead_of_the_first_state(self):
        for text in ("a 0 0", "- 0 0", "0", "a", "a = 0", "x 0 0\n= 0", "== 0", "=0"):
            self.wrong(text, 1, 1)

    def test_lines_of_states(self):
        self.wrong("=", 1, 2)
        self.wrong("= 0\n=", 2, 2)
        for word in ("1", "00", "-0", "+0", "a", "="):
            self.wrong("= " + word, 1, 2)
        self.wrong("= 0\n= 2", 2, 2)
        self.wrong("= 0\n= 0", 2, 2)
        self.wrong("= 0 0", 1, 3)
        self.wrong("= 0\n= 1 x y", 2, 3)
        self.wrong("= 1 x", 1, 2)

    def test_the_41st_state(self):
        forty = "\n".join([f"= {state}" for state in range(40)])
        self.assertEqual(len(read_machine(forty)[0]), 40)
        for line in ("= 40", "=", "= 41 x"):
            self.wrong(forty + "\n" + line, 41, 1)
        self.same(read_machine(forty + "\na 39 0")[0][39], ((39, "a"),))

    def test_words_that_are_none(self):
        for word in ("abcdefghi", "A", "aB", "a1", "--", "-a", "0", "a-b", "a,", "_", "\u00e4", "\t", "a\tb", "\r"):
            self.wrong(f"= 0\n{word} 0 0", 2, 1)
        self.wrong("= 0\na 0 0\r", 2, 3)

    def test_the_seventh_option(self):
        six = "= 0" + "\na 0 0" * 6
        self.assertEqual(len(read_machine(six)[0][0]), 6)
        for line in ("a 0 0", "- 0 0", "A", "a"):
            self.wrong(six + "\n" + line, 8, 1)
        self.same(len(read_machine(six + "\n= 1" + six[3:])[0]), 2)

    def test_states_to_which_options_lead(self):
        for word in ("40", "41", "100", "00", "01", "-1", "+1", "a", "-", "=", "1.0", "\u0661", "0x"):
            self.wrong(f"= 0\na {word} 0", 2, 2)
        self.wrong("= 0\na", 2, 2)
        self.wrong("= 0\nyes 1 0", 2, 2)
        self.wrong("= 0\na 39 0\n= 1\na 2 0", 2, 2)
        self.wrong("= 0\na 1 0\n= 1\na 2 0\nb 39 0", 4, 2)
        self.same(read_machine("= 0\na 1 0\n= 1")[0], (((1, "a"),), ()))
        # A state that isn't there is told only if each word can stand.
        self.wrong("= 0\na 5 0\nb 0 4", 3, 3)

    def test_marks(self):
        self.wrong("= 0\na 0", 2, 3)
        for word in ("4", "-1", "00", "10", "a", "-", "="):
            self.wrong(f"= 0\na 0 {word}", 2, 3)
            self.wrong(f"= 0\na 0 1 2 {word} 9", 2, 5)
        self.same(read_machine("= 0\na 0 0 1 2 3 0 1 2 3")[1], (((0, 1, 2, 3, 0, 1, 2, 3),),))
        self.wrong("= 0\na 0 0 1 2 3 0 1 2 3 0", 2, 11)
        self.wrong("= 0\na 0 0 1 2 3 0 1 2 3 x", 2, 11)
        self.wrong("= 0\na 0 0 1 2 3 0 1 2 4 0", 2, 10)

    def test_line_by_line(self):
        self.wrong("= 0\na 0 7\nB", 2, 3)
        self.wrong("= 0\nb 40\nB", 2, 2)

    def test_against_a_second_telling(self):
        dice = random.Random(202)
        right = 0
        for _ in range(6000):
            lines = ["= 0"] if dice.random() < 0.95 else []
            for _ in range(dice.randint(0, 9)):
                kind = dice.random()
                if kind < 0.25:
                    lines.append(f"= {sum(line[:1] == '=' for line in lines)}")
                else:
                    lines.append(f"{dice.choice(['a', '-', 'bc'])} {dice.randint(0, 3)} " + " ".join(
                        [dice.choice("0123") for _ in range(dice.randint(1, 8))]))
            if lines and dice.random() < 0.6:
                at = dice.randrange(len(lines))
                words = lines[at].split(" ")
                change = dice.random()
                if change < 0.4:
                    words[dice.randrange(len(words))] = dice.choice(WORDS)
                elif change < 0.7:
                    words.insert(dice.randint(0, len(words)), dice.choice(WORDS))
                else:
                    words.pop()
                lines[at] = " ".join(words)
            text = "\n".join(lines)
            wrong = first_wrong(text)
            if wrong is None:
                right += 1
                machine, table = read_machine(text)
                self.same(write_machine(machine, table), text)
            else:
                self.fails(BadLine, read_machine, text, line=wrong[0], word=wrong[1])
        self.assertGreater(right, 500)
        self.assertLess(right, 5500)

    def test_no_string(self):
        for value in [value for value in NO_KIND if not isinstance(value, str)]:
            self.fails(BadString, read_machine, value)


if __name__ == "__main__":
    unittest.main()
