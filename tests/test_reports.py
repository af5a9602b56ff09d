"""Stories as text, and what they and lives tell (points 45 and 46)."""

import random
import unittest

from onelife.errors import BadLife, BadLine, BadMachine, BadMarks, BadStory, BadString, BadTable
from onelife.reports import read_story, report, tell_lives, write_story
from tests.manners import random_story
from tests.oracles import Story, along, do_part, follow
from tests.tools import BIRTH, COIN, COIN_TABLE, GAME, GAME_TABLE, NO_KIND, SAME_TABLE, Case, settings

BOOT = ("boot", BIRTH)
BOOT_LINE = "boot 0 - - 0"
WORDS = ["boot", "ask", "turn", "cut", "-", "0", "3", "4", "5", "6", "12", "999", "1000", "00", "01", "0,1", "0,,1", ",", "0,6", "0,",
         "-1", "+1", "a", "0,1,2,3,4,5", "\t", "Boot", "seal", "0,-", "5,5,5"]


def random_form(dice):
    """A step of the form that can be written, whether it can be done or not."""
    kind = dice.randrange(5)
    if kind == 0:
        return dice.choice([("turn",), ("cut",)])
    if kind == 1:
        return "ask", dice.randrange(6)
    life = tuple([dice.randrange(6) for _ in range(dice.choice([0, 1, 2, 11, 40]))])
    return "boot", (dice.choice([0, 1, 10, 999]), dice.choice([None, 0, 1, 2, 3]), life, dice.choice([0, 1, 100, 999]))


def is_number(word):
    return word in [str(number) for number in range(1000)]


def is_life(word):
    return word == "-" or (set(word) <= set("012345,") and len(word) % 2 == 1 and len(word) < 80
                           and set(word[::2]) <= set("012345") and set(word[1::2]) <= {","})


def wrong_at(words):
    """The first word of a line that is wrong, told once more, None if none is."""
    tests = {
        "boot": [is_number, lambda word: word in list("-0123"), is_life, is_number],
        "ask": [lambda word: word in list("012345")], "turn": [], "cut": []}.get(words[0])
    if tests is None:
        return 1
    for at in range(len(tests)):
        if len(words) < at + 2 or not tests[at](words[at + 1]):
            return at + 2
    return len(tests) + 2 if len(words) > len(tests) + 1 else None


def first_wrong(text):
    """The line and the word that a text is wrong at, None if it is right."""
    steps = 0
    for number, line in enumerate(text.split("\n"), 1):
        words = [word for word in line.split(" ") if word]
        if words:
            steps += 1
            wrong = 1 if steps > 200 else wrong_at(words)
            if wrong is not None:
                return number, wrong
    return None


class WriteTest(Case):
    def test_each_step(self):
        self.same(write_story(()), "")
        self.same(write_story((BOOT,)), BOOT_LINE)
        self.same(write_story((("boot", (12, 3, (0,), 1)), ("boot", (999, 0, (5, 0, 4), 999)))), "boot 12 3 0 1\nboot 999 0 5,0,4 999")
        self.same(write_story((("ask", 0), ("ask", 5), ("turn",), ("cut",))), "ask 0\nask 5\nturn\ncut")

    def test_whether_steps_can_be_done_is_not_asked(self):
        story = (("turn",), ("cut",), ("cut",), ("ask", 3), ("boot", (7, None, (), 0)), ("boot", (0, 2, (1,), 0)))
        self.same(write_story(story), "turn\ncut\ncut\nask 3\nboot 7 - - 0\nboot 0 2 1 0")
        self.same(read_story(write_story(story)), story)

    def test_200_steps_and_201(self):
        story = (BOOT, ("cut",)) * 100
        self.same(write_story(story), "\n".join([BOOT_LINE, "cut"] * 100))
        self.same(read_story(write_story(story)), story)
        self.fails(BadStory, write_story, story + (("cut",),), index=None)
        self.fails(BadStory, write_story, (None,) * 201, index=None)

    def test_lives_of_40_options_and_41(self):
        step = ("boot", (40, 0, (1,) * 40, 1))
        self.same(write_story((step,)), "boot 40 0 " + "1," * 39 + "1 1")
        self.same(read_story(write_story((step,))), (step,))
        self.fails(BadStory, write_story, (BOOT, ("boot", (40, 0, (1,) * 41, 1))), index=1)

    def test_no_story(self):
        for value in (None, True, 0, "cut", [], [("cut",)], {}, {0: ("cut",)}):
            self.fails(BadStory, write_story, value, index=None)
        for step in (None, (), ("cut", 0), ("turn", None), ("turn", ()), ("seal",), ("go", 0), ["cut"], "cut", ("ask",), ("ask", 6),
                     ("ask", -1), ("ask", True), ("ask", None), ("ask", "0"), ("ask", (0,)), ("ask", 0, 0), ("boot",), ("boot", None),
                     ("boot", (0, None, (), 0), 0), ("boot", (0, None, ())), ("boot", [0, None, (), 0]), ("boot", (0, None, [], 0)),
                     ("boot", (0, None, (), 0, 0)), ("boot", (1000, None, (), 0)), ("boot", (-1, None, (), 0)), ("boot", (True, None, (), 0)),
                     ("boot", (0, 4, (), 0)), ("boot", (0, -1, (), 0)), ("boot", (0, False, (), 0)), ("boot", (0, "-", (), 0)),
                     ("boot", (0, None, (6,), 0)), ("boot", (0, None, (-1,), 0)), ("boot", (0, None, (True,), 0)), ("boot", (0, None, None, 0)),
                     ("boot", (0, None, (None,), 0)), ("boot", (0, None, "-", 0)), ("boot", (0, None, (), 1000)), ("boot", (0, None, (), -1)),
                     ("boot", (0, None, (), True)), ("boot", (0, None, (), None)), (["boot"], BIRTH), ("Boot", BIRTH), (None, 0)):
            self.fails(BadStory, write_story, (step,), index=0)
            self.fails(BadStory, write_story, (BOOT, ("cut",), step, None), index=2)
        for value in NO_KIND:
            if isinstance(value, tuple) and 0 < len(value) < 41:
                self.fails(BadStory, write_story, value, index=0)


class ReadTest(Case):
    def wrong(self, text, line, word):
        self.fails(BadLine, read_story, text, line=line, word=word)
        self.assertEqual(first_wrong(text), (line, word))

    def test_void_lines_and_spaces(self):
        for text in ("", " ", "\n", "\n  \n\n"):
            self.same(read_story(text), ())
        self.same(read_story("\n  boot   0 -  -   0  \n\n \nask 1\n   turn\ncut\n\n"), (BOOT, ("ask", 1), ("turn",), ("cut",)))
        self.wrong("\n\nboot 0 - - 0\n\n  jump", 5, 1)

    def test_first_words(self):
        for word in ("", "Boot", "boots", "seal", "go", "=", "-", "0", "boot0", "\t", "turn\t", "cut\r", "\u00a0cut"):
            if word:
                self.wrong(word, 1, 1)
                self.wrong("turn\n" + word + " 0 - - 0", 2, 1)

    def test_words_of_a_boot(self):
        for words, wrong in (("", 2), ("0", 3), ("0 -", 4), ("0 - -", 5), ("0 - - 0 0", 6), ("0 - - 0 0 0", 6), ("- - - 0", 2), ("x y z", 2),
                             ("0 4 - 0", 3), ("0 x - 0", 3), ("0 10 - 0", 3), ("0 -1 - 0", 3), ("0 0 6 0", 4), ("0 0 0,6 0", 4), ("0 0 0, 0", 4),
                             ("0 0 ,0 0", 4), ("0 0 0,,0 0", 4), ("0 0 , 0", 4), ("0 0 00 0", 4), ("0 0 -,0 0", 4), ("0 0 0-0 0", 4),
                             ("0 0 0 -", 5), ("0 0 0 x", 5), ("0 0 0, 1 0", 4), ("0 0 0;1 0", 4)):
            self.wrong("boot " + words, 1, wrong)
        forty = ",".join(["5"] * 40)
        self.same(read_story(f"boot 0 - {forty} 0"), (("boot", (0, None, (5,) * 40, 0)),))
        self.wrong(f"boot 0 - {forty},5 0", 1, 4)

    def test_integers(self):
        for word in ("1000", "00", "01", "-0", "+1", "1.0", "0x1", "-1", "1e1", "0999", "\u0661", "1_0"):
            self.wrong(f"boot {word} - - 0", 1, 2)
            self.wrong(f"cut\nboot 0 - - {word}", 2, 5)
        self.same(read_story("boot 999 3 0,5 999\nboot 10 0 - 100"), (("boot", (999, 3, (0, 5), 999)), ("boot", (10, 0, (), 100))))

    def test_words_of_other_steps(self):
        for text, word in (("ask", 2), ("ask 6", 2), ("ask -", 2), ("ask 00", 2), ("ask -1", 2), ("ask x", 2), ("ask 0,1", 2), ("ask 0 0", 3),
                           ("turn 0", 2), ("turn turn", 2), ("cut 0", 2), ("cut -  -", 2)):
            self.wrong(text, 1, word)
            self.wrong("\n" + text + "\nx", 2, word)

    def test_the_201st_step(self):
        text = "\n".join(["", "cut"] * 200)
        self.same(read_story(text + "\n \n"), (("cut",),) * 200)
        for line in ("cut", "turn 0", "x", "boot"):
            self.wrong(text + "\n" + line, 401, 1)
            self.wrong(text + "\n\n\n  " + line, 403, 1)
        self.wrong(text.replace("cut", "cut 0", 200), 2, 2)

    def test_there_and_back(self):
        dice = random.Random(451)
        for _ in range(300):
            story = tuple([random_form(dice) for _ in range(dice.choice([0, 1, 3, 30, 200]))])
            self.same(read_story(write_story(story)), story)
            self.assertIsNone(first_wrong(write_story(story)))

    def test_against_a_second_telling(self):
        dice = random.Random(452)
        right = 0
        for _ in range(5000):
            lines = write_story(tuple([random_form(dice) for _ in range(dice.randint(1, 5))])).split("\n")
            for _ in range(dice.randint(0, 2)):
                at = dice.randrange(len(lines))
                words = lines[at].split(" ")
                change = dice.random()
                if change < 0.5:
                    words[dice.randrange(len(words))] = dice.choice(WORDS)
                elif change < 0.8:
                    words.insert(dice.randint(0, len(words)), dice.choice(WORDS))
                else:
                    words.pop()
                lines[at] = " ".join(words)
            text = "\n".join(lines)
            wrong = first_wrong(text)
            if wrong is None:
                right += 1
                bare = "\n".join([" ".join(line.split()) for line in text.split("\n") if line.strip()])
                self.same(write_story(read_story(text)), bare)
            else:
                self.fails(BadLine, read_story, text, line=wrong[0], word=wrong[1])
        self.assertTrue(1000 < right < 4000, right)

    def test_no_string(self):
        for value in [value for value in NO_KIND if not isinstance(value, str)]:
            self.fails(BadString, read_story, value)


def step_told(machine, table, story, at):
    """The line of a step, from the worlds ahead of it and behind it."""
    before, here = Story(machine, table, story[:at]), Story(machine, table, story[:at + 1])
    line = story[at][0]
    if line == "ask":
        line += " " + str(story[at][1])
    if line == "turn":
        line += " " + str(here.count) + " by mark " + str(here.mark)
    line += ": "
    how = here.stands()
    if how[0] == "choice":
        line += "at the choice of state " + str(follow(machine, table, how[1])[0])
    elif how[0] == "sealed":
        line += "sealed for turn " + str(how[1][0]) + " by mark " + str(how[1][1])
    else:
        line += how[0]
    for number, word in here.heard[len(before.heard):]:
        line += ", says " + word + " at " + str(number)
    return line


class ReportTest(Case):
    def test_each_step_and_each_way_to_stand(self):
        story = (BOOT, ("ask", 0), ("turn",), ("cut",), BOOT, ("cut",), ("boot", (1, 0, (0,), 1)), ("ask", 1), ("cut",))
        self.same(report(COIN, 2, COIN_TABLE, story), (
            "boot: at the choice of state 0", "ask 0: sealed for turn 1 by mark 0",
            "turn 1 by mark 0: at the choice of state 0, says yes at 1", "cut: off", "boot: mute", "cut: off",
            "boot: at the choice of state 0, says yes at 1", "ask 1: sealed for turn 2 by mark 1", "cut: off"))
        self.same(report(COIN, 2, COIN_TABLE, ()), ())

    def test_rows_of_two_marks_and_silent_options(self):
        story = (BOOT, ("ask", 0), ("turn",), ("turn",), ("ask", 2), ("turn",), ("cut",), ("boot", (3, 0, (0, 2), 1)), ("turn",), ("ask", 1),
                 ("turn",))
        self.same(report(GAME, 2, GAME_TABLE, story), (
            "boot: at the choice of state 0", "ask 0: sealed for turn 1 by mark 0", "turn 1 by mark 0: sealed for turn 2 by mark 1",
            "turn 2 by mark 1: at the choice of state 0, says on at 2", "ask 2: sealed for turn 3 by mark 0",
            "turn 3 by mark 0: sealed for turn 4 by mark 0", "cut: off", "boot: sealed for turn 4 by mark 0",
            "turn 4 by mark 0: at the choice of state 0", "ask 1: sealed for turn 5 by mark 1",
            "turn 5 by mark 1: at the choice of state 1, says end at 5"))

    def test_a_story_of_200_steps(self):
        story = (BOOT,) + (("ask", 0), ("turn",)) * 99 + (("cut",),)
        lines = report(COIN, 2, COIN_TABLE, story)
        self.assertEqual(len(lines), 200)
        self.same(lines[198], "turn 99 by mark 0: at the choice of state 0, says yes at 99")
        self.fails(BadStory, report, COIN, 2, COIN_TABLE, story + (BOOT,), index=None)

    def test_against_the_worlds_of_each_step(self):
        dice = random.Random(461)
        for machine, marks, table in settings(462, 60, longest=3):
            story = random_story(dice, machine, table, "sealed", dice.randint(0, 25))
            self.same(report(machine, marks, table, story),
                      tuple([step_told(machine, table, story, at) for at in range(len(story))]))

    def test_steps_that_cannot_be_done(self):
        for story, index in (((("turn",),), 0), ((BOOT, BOOT), 1), ((BOOT, ("ask", 2)), 1), ((BOOT, ("ask", True)), 1),
                             ((BOOT, ("cut",), ("boot", (1, 0, (0,), 1))), 2), ((BOOT, ("ask", 0), None), 2), (None, None), ([], None)):
            self.fails(BadStory, report, COIN, 2, COIN_TABLE, story, index=index)

    def test_errors_from_left_to_right(self):
        self.fails(BadMachine, report, None, 0, None, None, index=None)
        self.fails(BadMarks, report, COIN, 0, None, None)
        self.fails(BadTable, report, COIN, 2, None, None, index=None)


class TellLivesTest(Case):
    def tell(self, table, one, other, marks=2):
        return tell_lives(COIN, marks, table, one, other)

    def test_lives_that_part(self):
        self.same(self.tell(SAME_TABLE, (0,), (1,), 1), ("one says yes at 1", "the other says no at 1", "both turn 0", "they part"))
        self.same(self.tell((((0,), (0, 1)),), (0,), (1, 1)), (
            "one says yes at 1", "the other says no at 2, no at 4", "both turn 0", "they part"))

    def test_lives_that_tell_alike_so_far(self):
        nothing = ("one says nothing", "the other says nothing", "both turn nothing", "they tell alike so far")
        self.same(self.tell(COIN_TABLE, (), ()), nothing)
        self.same(self.tell(COIN_TABLE, (), (1,)), nothing[:1] + ("the other says no at 1",) + nothing[2:])
        self.same(self.tell(COIN_TABLE, (0, 1, 1), (0, 1)), (
            "one says yes at 1, no at 2, no at 3", "the other says yes at 1, no at 2", "both turn 0 1", "they tell alike so far"))
        machine = (((0, None), (0, "b")),)
        self.same(tell_lives(machine, 1, (((0,), (0, 0)),), (0,), (1,)), (
            "one says nothing", "the other says b at 2", "both turn 0", "they tell alike so far"))

    def test_lives_that_turn_otherwise(self):
        self.same(self.tell(COIN_TABLE, (0,), (1,)), (
            "one says yes at 1", "the other says no at 1", "both turn nothing", "they turn otherwise at turn 1"))
        self.same(self.tell(COIN_TABLE, (0, 0, 1), (0, 0, 0, 1)), (
            "one says yes at 1, yes at 2, no at 3", "the other says yes at 1, yes at 2, yes at 3, no at 4", "both turn 0 0",
            "they turn otherwise at turn 3"))
        self.same(self.tell((((0, 1, 0), (0, 1, 1)),), (0,), (1,))[2:], ("both turn 0 1", "they turn otherwise at turn 3"))

    def test_against_the_definition(self):
        dice = random.Random(463)
        ends = {}
        for machine, marks, table in settings(464, 300, states=2, longest=2):
            lives = []
            for _ in range(2):
                life = ()
                for _ in range(dice.randint(0, 4)):
                    options = len(machine[follow(machine, table, life)[0]])
                    if options:
                        life += (dice.randrange(options),)
                lives.append(life)
            one, other = lives
            (_, first, told), (_, second, said) = follow(machine, table, one), follow(machine, table, other)
            alike = 0
            while alike < min(len(first), len(second)) and first[alike] == second[alike]:
                alike += 1
            end = f"they turn otherwise at turn {alike + 1}"
            if along(first, second):
                end = "they part" if do_part(machine, table, one, other) else "they tell alike so far"
            ends[end] = True
            self.same(tell_lives(machine, marks, table, one, other), (
                "one says " + (", ".join([f"{word} at {number}" for number, word in told]) or "nothing"),
                "the other says " + (", ".join([f"{word} at {number}" for number, word in said]) or "nothing"),
                "both turn " + (" ".join([str(mark) for mark in first[:alike]]) or "nothing"), end))
        self.assertGreater(len(ends), 4)

    def test_errors(self):
        self.fails(BadMachine, tell_lives, None, 0, None, None, None, index=None)
        self.fails(BadMarks, tell_lives, COIN, 0, None, None, None)
        self.fails(BadTable, tell_lives, COIN, 2, None, None, None, index=None)
        for life in (None, (2,), [0], (True,), (0,) * 41, "0"):
            self.fails(BadLife, self.tell, COIN_TABLE, life, ())
            self.fails(BadLife, self.tell, COIN_TABLE, (), life)


if __name__ == "__main__":
    unittest.main()
