"""Programs from text (point 41)."""

from onelife.checks import check_string, is_word
from onelife.errors import BadLine
from onelife.parts import MOST_DEEP, MOST_PARTS
from onelife.texts import lines_in

MOST_CELLS = 4
MOST_CHOICES = 6
NUMBERS = ("0", "1", "2", "3", "4", "5", "6")

# How many words a line has at least.
FEWEST_WORDS = {
    "cell": 3, "set": 3, "say": 2, "stop": 1, "if": 4, "while": 4, "choose": 1, "option": 2, "else": 1, "end": 1}
SIMPLE_PARTS = ("set", "say", "stop")
PARTS_WITH_BLOCKS = ("if", "while", "choose")


def read_program(text):
    """The program that a text tells."""
    check_string(text)
    reader = Reader()
    lines = lines_in(text)
    for number, words in enumerate(lines, start=1):
        if not words:
            continue
        wrong = reader.wrong_word(words)
        if wrong is not None:
            raise BadLine(number, wrong)
        reader.take_line(words)
    if len(reader.begun) > 1:
        raise BadLine(len(lines) + 1, 1)
    return tuple(reader.cells.items()), tuple(reader.begun[0].blocks[0])


class Begun:
    """A part that is begun and not yet ended: its kind, its test, its options' words and its blocks so far."""

    def __init__(self, kind, test, blocks):
        self.kind = kind
        self.test = test
        self.blocks = blocks
        self.choices = []


class Reader:
    """What was read of a program so far: its cells, how many parts, and the parts that are begun, the program first."""

    def __init__(self):
        self.cells = {}
        self.many = 0
        self.begun = [Begun("program", None, [[]])]

    def wrong_word(self, words):
        """The first word of a line that cannot stand here, counted from 1, None without one."""
        if not self._can_begin(words[0]):
            return 1
        for at in range(1, len(words)):
            if not self._can_stand(words, at):
                return at + 1
        return len(words) + 1 if len(words) < FEWEST_WORDS[words[0]] else None

    def take_line(self, words):
        """Take a line in which each word can stand."""
        kind = words[0]
        last = self.begun[-1]
        if kind == "cell":
            self.cells[words[1]] = int(words[2])
        elif kind == "option":
            last.choices.append(None if words[1] == "-" else words[1])
            last.blocks.append([])
        elif kind == "else":
            last.blocks.append([])
        elif kind == "end":
            self.begun.pop()
            self.begun[-1].blocks[-1].append(_part_ended(last))
        else:
            self.many += 1
            self._take_part(kind, words)

    def _take_part(self, kind, words):
        if kind in SIMPLE_PARTS:
            self.begun[-1].blocks[-1].append(_simple_part(kind, words))
        elif kind == "choose":
            self.begun.append(Begun(kind, None, []))
        else:
            test = (words[1], words[2] == "=", int(words[3]))
            self.begun.append(Begun(kind, test, [[]]))

    def _can_begin(self, word):
        last = self.begun[-1]
        if word == "option":
            return last.kind == "choose" and len(last.blocks) < MOST_CHOICES
        if not last.blocks:
            return False
        if word == "cell":
            return self.many == 0 and len(self.cells) < MOST_CELLS
        if word == "else":
            return last.kind == "if" and len(last.blocks) == 1
        if word == "end":
            return len(self.begun) > 1
        if word in PARTS_WITH_BLOCKS:
            return self.many < MOST_PARTS and len(self.begun) < MOST_DEEP
        return word in SIMPLE_PARTS and self.many < MOST_PARTS

    def _can_stand(self, words, at):
        """Whether the word at this index of a line can stand there, all words ahead of it being right."""
        kind, word = words[0], words[at]
        if kind == "set":
            return self._can_stand_in_set(words, at)
        if kind in ("if", "while"):
            return self._can_stand_in_test(words, at)
        if kind == "cell":
            return is_word(word) and word not in self.cells if at == 1 else at == 2 and word in NUMBERS[2:]
        if kind == "say":
            return at == 1 and is_word(word)
        return kind == "option" and at == 1 and (word == "-" or is_word(word))

    def _can_stand_in_set(self, words, at):
        word = words[at]
        if at == 1:
            return word in self.cells
        if at == 3:
            return words[2] in self.cells and word in NUMBERS[1:6]
        if at == 2 and word in self.cells:
            # It is the source that can't stand ahead of a number that isn't from 1 to 5.
            return len(words) == 3 or not _is_digits(words[3]) or words[3] in NUMBERS[1:6]
        return at == 2 and word in NUMBERS[:6]

    def _can_stand_in_test(self, words, at):
        word = words[at]
        if at == 1:
            return word in self.cells
        if at == 2:
            return word in ("=", "!=")
        return at == 3 and word in NUMBERS[:self.cells[words[1]]]


def _is_digits(word):
    return all(["0" <= letter <= "9" for letter in word])


def _simple_part(kind, words):
    if kind != "set":
        return tuple(words)
    if words[2] in NUMBERS:
        return kind, words[1], None, int(words[2])
    return kind, words[1], words[2], int(words[3]) if len(words) == 4 else 0


def _part_ended(part):
    blocks = [tuple(block) for block in part.blocks]
    if part.kind == "choose":
        return part.kind, tuple(zip(part.choices, blocks))
    if part.kind == "if" and len(blocks) == 1:
        blocks.append(())
    return (part.kind, part.test) + tuple(blocks)
