"""Programs from text (point 41)."""

import random
import unittest

from onelife.errors import BadLine, BadString
from onelife.programs import write_program
from onelife.readers import read_program
from tests.scripts import random_program, reread
from tests.tools import NO_KIND, Case

WORDS = ["cell", "set", "say", "stop", "if", "while", "choose", "option", "else", "end", "=", "!=", "-", "x", "y", "a", "0", "1",
         "2", "3", "5", "6", "7", "00", "X", "abcdefghi", "+1", "\t"]


class ReadTest(Case):
    def reads(self, text, program):
        self.same(read_program(text), program)
        self.same(reread(text), (program, None))

    def test_nothing(self):
        for text in ("", " ", "\n", "\n\n   \n"):
            self.reads(text, ((), ()))

    def test_each_kind_of_line(self):
        self.reads("cell a 2\ncell abcdefgh 6\nset a 0\nset a 5\nset a a\nset abcdefgh a 1\nset a a 5", (
            (("a", 2), ("abcdefgh", 6)), (
                ("set", "a", None, 0), ("set", "a", None, 5), ("set", "a", "a", 0), ("set", "abcdefgh", "a", 1),
                ("set", "a", "a", 5))))
        self.reads("say stop\nstop", ((), (("say", "stop"), ("stop",))))
        self.reads("cell a 2\nif a = 0\nend\nif a != 1\nstop\nelse\nend\nif a = 1\nelse\nstop\nend", ((("a", 2),), (
            ("if", ("a", True, 0), (), ()), ("if", ("a", False, 1), (("stop",),), ()),
            ("if", ("a", True, 1), (), (("stop",),)))))
        self.reads("cell a 6\nwhile a != 5\nend\nwhile a = 0\nsay x\nend", ((("a", 6),), (
            ("while", ("a", False, 5), ()), ("while", ("a", True, 0), (("say", "x"),)))))
        self.reads("choose\noption -\noption x\nstop\nsay y\noption -\nend", ((), (
            ("choose", ((None, ()), ("x", (("stop",), ("say", "y"))), (None, ()))),)))

    def test_words_of_the_language_are_words(self):
        self.reads("cell if 2\ncell end 3\nset if end 1\nwhile end = 2\nsay while\nend\nchoose\noption option\nend", (
            (("if", 2), ("end", 3)), (
                ("set", "if", "end", 1), ("while", ("end", True, 2), (("say", "while"),)), ("choose", (("option", ()),)))))

    def test_spaces_and_void_lines(self):
        self.reads("\n  cell   a  2  \n\n \nchoose \n\n  option   -\n   \n set a   1\n\nend\n  ", (
            (("a", 2),), (("choose", ((None, (("set", "a", None, 1),)),)),)))

    def test_blocks_in_blocks(self):
        text = "choose\noption a\nchoose\noption b\noption c\nsay x\nend\noption d\nend\nsay y"
        self.reads(text, ((), (
            ("choose", (("a", (("choose", (("b", ()), ("c", (("say", "x"),)))),)), ("d", ()))), ("say", "y"))))

    def test_there_and_back(self):
        dice = random.Random(411)
        for _ in range(800):
            program = random_program(dice, cells=4, parts=30, deep=8, words=("a", "option", None))
            text = write_program(program)
            self.reads(text, program)
            spaced = "\n".join([dice.choice(["", " "]) + line.replace(" ", dice.choice([" ", "   "])) + dice.choice(["", "  ", "\n"])
                                for line in text.split("\n")])
            self.reads(spaced, program)

    def test_no_string(self):
        for value in [value for value in NO_KIND if not isinstance(value, str)]:
            self.fails(BadString, read_program, value)


class BadLineTest(Case):
    def wrong(self, text, line, word):
        self.fails(BadLine, read_program, text, line=line, word=word)
        self.assertEqual(reread(text), (None, (line, word)))

    def test_words_that_begin_no_line(self):
        for word in ("x", "Say", "-", "=", "0", "cells", "\t", "say\t", "elseif", "\u00e9", "say,"):
            self.wrong(word + " y", 1, 1)
            self.wrong("stop\n\n" + word, 3, 1)

    def test_lines_behind_choose(self):
        for line in ("say x", "end", "stop", "choose", "else", "cell a 2", "x", "options -"):
            self.wrong("choose\n" + line, 2, 1)
            self.wrong("choose\n\n  \n" + line, 4, 1)
            self.wrong("choose\noption -\nchoose\n" + line + "\nend\nend", 4, 1)

    def test_cells(self):
        self.wrong("stop\ncell a 2", 2, 1)
        self.wrong("cell a 2\nif a = 0\ncell b 2", 3, 1)
        self.wrong("choose\noption -\ncell a 2", 3, 1)
        self.wrong("cell a 2\nset a 1\ncell b 2", 3, 1)
        four = "\n".join([f"cell {name} 2" for name in "abcd"])
        self.assertEqual(len(read_program(four)[0]), 4)
        for line in ("cell e 2", "cell", "cell a 9"):
            self.wrong(four + "\n" + line, 5, 1)
        for name in ("A", "abcdefghi", "a1", "-", "0", "a-b"):
            self.wrong(f"cell {name} 2", 1, 2)
        self.wrong("cell a 2\ncell b 2\ncell a 3", 3, 2)
        for values in ("0", "1", "7", "10", "02", "+2", "-2", "a", "2.", "\u0662"):
            self.wrong(f"cell a {values}", 1, 3)
        self.wrong("cell a 2 2", 1, 4)
        self.wrong("cell", 1, 2)
        self.wrong("cell a", 1, 3)

    def test_settings(self):
        def wrong_set(words, word):
            self.wrong("cell a 3\ncell b 2\nset " + words, 3, word)
        for name in ("c", "ab", "A", "0", "-"):
            wrong_set(name + " 1", 2)
            wrong_set(name, 2)
            wrong_set("a " + name + " 1" if name != "0" else "b c", 3)
        for number in ("6", "7", "10", "00", "05", "-1", "+1", "-", "="):
            wrong_set("a " + number, 3)
        wrong_set("a 1 2", 4)
        wrong_set("a 0 b", 4)
        wrong_set("a b 1 2", 5)
        wrong_set("a", 3)
        self.wrong("cell a 3\nset", 2, 2)
        self.same(read_program("cell a 3\ncell b 2\nset a b 5")[1], (("set", "a", "b", 5),))

    def test_a_source_ahead_of_a_number_that_is_not_from_1_to_5(self):
        for number in ("0", "6", "9", "10", "00", "01"):
            self.wrong(f"cell a 3\ncell b 2\nset a b {number}", 3, 3)
        self.wrong("cell a 3\nset a a 0 0", 2, 3)
        for word in ("b", "x", "-1", "+1", "="):
            self.wrong(f"cell a 3\ncell b 2\nset a b {word}", 3, 4)

    def test_tests(self):
        for kind in ("if", "while"):
            def wrong_test(words, word):
                self.wrong(f"cell a 3\ncell b 2\n{kind} {words}\nend", 3, word)
            for words, word in (("c = 0", 2), ("0 = a", 2), ("A = 0", 2), ("a == 0", 3), ("a ! 0", 3), ("a 0", 3), ("a =0", 3),
                                ("a = 3", 4), ("b != 2", 4), ("a = b", 4), ("a = 00", 4), ("a = -1", 4), ("a = 6", 4),
                                ("a = 0 0", 5), ("a != 1 x y", 5), ("a = ", 4), ("a", 3), ("", 2)):
                wrong_test(words, word)
            self.same(read_program(f"cell a 3\ncell b 2\n{kind} a != 2\nend")[1][0][1], ("a", False, 2))

    def test_words_said(self):
        for word in ("A", "abcdefghi", "-", "0", "a.", "=", "\ta"):
            self.wrong("say " + word, 1, 2)
            if word != "-":
                self.wrong("choose\noption " + word, 2, 2)
        self.wrong("say", 1, 2)
        self.wrong("say a b", 1, 3)
        self.wrong("choose\noption", 2, 2)
        self.wrong("choose\noption a b", 2, 3)
        self.wrong("choose\noption - -", 2, 3)

    def test_words_too_many(self):
        self.wrong("stop x", 1, 2)
        self.wrong("choose -", 1, 2)
        self.wrong("choose\noption -\nend end", 3, 2)
        self.wrong("cell a 2\nif a = 0\nelse if", 3, 2)
        self.wrong("cell a 2\nwhile a = 0\nend 1", 3, 2)

    def test_else(self):
        self.wrong("else", 1, 1)
        self.wrong("cell a 2\nwhile a = 0\nelse", 3, 1)
        self.wrong("choose\noption -\nelse", 3, 1)
        self.wrong("cell a 2\nif a = 0\nelse\nstop\nelse\nend", 5, 1)
        self.wrong("cell a 2\nif a = 0\nend\nelse", 4, 1)
        self.wrong("cell a 2\nif a = 0\nchoose\noption -\nelse", 5, 1)
        self.wrong("cell a 2\nif a = 0\nwhile a = 0\nelse", 4, 1)

    def test_option(self):
        self.wrong("option -", 1, 1)
        self.wrong("cell a 2\nif a = 0\noption -", 3, 1)
        self.wrong("choose\noption -\nend\noption -", 4, 1)
        self.wrong("cell a 2\nchoose\noption -\nif a = 0\noption -\nend\nend", 5, 1)
        six = "choose" + "\noption x\nstop" * 6
        self.assertEqual(len(read_program(six + "\nend")[1][0][1]), 6)
        for line in ("option x", "option", "option X Y"):
            self.wrong(six + "\n" + line, 14, 1)

    def test_end_of_nothing(self):
        self.wrong("end", 1, 1)
        self.wrong("say no\nend", 2, 1)
        self.wrong("choose\noption -\nend\nend", 4, 1)
        self.wrong("choose\nend", 2, 1)

    def test_eighty_parts_and_more(self):
        eighty = "\n".join(["say x"] * 80)
        self.assertEqual(len(read_program(eighty)[1]), 80)
        for line in ("say x", "stop", "choose", "say", "stop x"):
            self.wrong(eighty + "\n" + line, 81, 1)
        # Parts within others count, too; lines that are none don't.
        text = "cell a 2\nif a = 0" + "\nsay x" * 39 + "\nelse" + "\nsay x" * 39 + "\nend\nstop"
        self.assertEqual(len(read_program(text)[1]), 2)
        self.wrong(text + "\nset a 1", len(text.split("\n")) + 1, 1)
        self.wrong(text + "\nset", len(text.split("\n")) + 1, 1)
        self.wrong(text + "\nend", len(text.split("\n")) + 1, 1)

    def test_eight_deep_and_nine(self):
        head, opens = "cell a 2", ["if a = 0", "while a = 0", "choose\noption -", "if a = 1\nelse"]
        for first in opens:
            text = "\n".join([head, first] + [opens[at % 4] for at in range(6)] + ["say x"])
            self.assertEqual(read_program(text + "\nend" * 7)[0], (("a", 2),))
            line = len(text.split("\n")) + 1
            for more in ("if a = 0", "while a = 0", "choose", "if"):
                self.wrong(text + "\n" + more, line, 1)
            self.same(reread(text + "\nend\nif a = 0\nend" + "\nend" * 6)[1], None)
            self.assertEqual(len(read_program(text + "\nend\nif a = 0\nend" + "\nend" * 6)[1]), 1)

    def test_parts_without_their_end(self):
        for text in ("choose", "choose\noption -", "cell a 2\nif a = 0", "cell a 2\nif a = 0\nelse", "cell a 2\nwhile a = 0\nsay x",
                     "choose\noption -\nchoose\noption -\nend", "choose\n", "choose\noption -\n\n  "):
            self.wrong(text, len(text.split("\n")) + 1, 1)
        # A wrong word comes first, wherever it stands.
        self.wrong("choose\noption -\nX", 3, 1)

    def test_first_of_several(self):
        self.wrong("say A B\nX", 1, 2)
        self.wrong("set a 9 9", 1, 2)
        self.wrong("cell A 9 9", 1, 2)
        self.wrong("cell a 9 9", 1, 3)

    def test_against_a_second_telling(self):
        dice = random.Random(412)
        wrong = 0
        for _ in range(5000):
            text = write_program(random_program(dice, cells=3, parts=14, deep=8))
            lines = text.split("\n")
            for _ in range(dice.randint(0, 2)):
                at = dice.randrange(len(lines))
                change = dice.random()
                words = [word for word in lines[at].split(" ") if word]
                if change < 0.2:
                    del lines[at:at + 1]
                elif change < 0.35:
                    lines.insert(at, dice.choice(lines))
                elif change < 0.5:
                    lines[at] = " ".join([dice.choice(WORDS) for _ in range(dice.randint(0, 4))])
                elif change < 0.7:
                    lines[at] = " ".join(words + [dice.choice(WORDS)])
                elif words:
                    words[dice.randrange(len(words))] = dice.choice(WORDS)
                    lines[at] = " ".join(words)
                lines = lines or [""]
            text = "\n".join(lines)
            program, where = reread(text)
            if where is None:
                self.same(read_program(text), program)
                self.same(read_program(write_program(program)), program)
            else:
                wrong += 1
                self.fails(BadLine, read_program, text, line=where[0], word=where[1])
        self.assertGreater(wrong, 1000)
        self.assertLess(wrong, 4000)


if __name__ == "__main__":
    unittest.main()
