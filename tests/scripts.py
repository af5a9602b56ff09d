"""Programs and their texts told once more: runs block within block, and a reader that goes down into them."""

CELL_VALUES = ["2", "3", "4", "5", "6"]
PARTS = ("set", "say", "stop", "if", "while", "choose")


class Stopped(Exception):
    """A run came to a stop."""


class Never(Exception):
    """A run goes on for ever by itself."""


class Play:
    """A run of a program, led by options."""

    def __init__(self, program):
        self.sizes = dict(program[0])
        self.cells = {name: 0 for name, _ in program[0]}
        self.left = 0
        self.words = []
        self.offered = []
        self.going = self.whole(program[1])
        self.go(None)

    def whole(self, block):
        try:
            yield from self.block(block)
        except Stopped:
            pass

    def block(self, block):
        for part in block:
            yield from self.part(part)

    def part(self, part):
        # Far more steps than unlike moments of the small programs that are played here.
        self.left -= 1
        if self.left < 0:
            raise Never
        if part[0] == "set":
            start = 0 if part[2] is None else self.cells[part[2]]
            self.cells[part[1]] = (start + part[3]) % self.sizes[part[1]]
        elif part[0] == "if":
            yield from self.block(part[2] if self.holds(part[1]) else part[3])
        elif part[0] == "while":
            while self.holds(part[1]):
                self.left -= 1
                if self.left < 0:
                    raise Never
                yield from self.block(part[2])
        elif part[0] == "say":
            yield [part[1]]
        elif part[0] == "choose":
            option = yield [word for word, _ in part[1]]
            yield from self.block(part[1][option][1])
        else:
            raise Stopped

    def holds(self, test):
        name, equal, number = test
        return self.cells[name] == number if equal else self.cells[name] != number

    def go(self, option):
        """Take an option, and go on to the next choice, say or end."""
        if option is not None:
            self.words.append(self.offered[option])
        self.left = 4000
        try:
            self.offered = self.going.send(option)
        except StopIteration:
            self.offered = []


def play(program, life):
    """(words said, cells, words offered) behind a life; ("never",) or ("none",) where it can't go on."""
    try:
        run = Play(program)
        for option in life:
            if not isinstance(option, int) or isinstance(option, bool) or not 0 <= option < len(run.offered):
                return ("none",)
            run.go(option)
    except Never:
        return ("never",)
    return tuple([word for word in run.words if word is not None]), tuple(run.cells.values()), run.offered


def random_program(dice, cells=2, parts=12, deep=4, words=("a", "b", None)):
    """A program of at most so many parts."""
    names = tuple([(name, dice.randint(2, 3)) for name in ["x", "y", "z", "w"][:dice.randint(0, cells)]])
    left = [parts]

    def block(depth):
        made = []
        while left[0] > 0 and dice.random() < 0.7:
            left[0] -= 1
            made.append(part(depth))
        return tuple(made)

    def test():
        name, size = dice.choice(names)
        return name, dice.random() < 0.5, dice.randrange(size)

    def part(depth):
        kinds = ["say", "stop", "choose", "choose"] + ["set", "set", "set", "if", "while"] * (len(names) > 0)
        kind = dice.choice([kind for kind in kinds if depth < deep or kind in ("say", "stop", "set")])
        if kind == "say":
            return "say", dice.choice("abc")
        if kind == "stop":
            return ("stop",)
        if kind == "set":
            source = dice.choice([None] + [name for name, _ in names])
            return "set", dice.choice(names)[0], source, dice.randint(0, 5)
        if kind == "if":
            return "if", test(), block(depth + 1), block(depth + 1)
        if kind == "while":
            return "while", test(), block(depth + 1)
        return "choose", tuple([(dice.choice(words), block(depth + 1)) for _ in range(dice.randint(1, 3))])

    made = []
    for _ in range(dice.randint(1, 5)):
        if left[0] > 0:
            left[0] -= 1
            made.append(part(1))
    return names, tuple(made)


class Wrong(Exception):
    """A text is wrong at a line and a word."""

    def __init__(self, line, word):
        super().__init__()
        self.where = (line, word)


class Rereader:
    """A reader of programs that goes down into each block."""

    def __init__(self, text):
        lines = text.split("\n")
        split = [(number, [word for word in line.split(" ") if word]) for number, line in enumerate(lines, 1)]
        self.rows = [row for row in split if row[1]]
        self.end = len(lines) + 1
        self.cells, self.many = {}, 0

    def program(self):
        while self.first() == "cell" and len(self.cells) < 4:
            line, words = self.rows.pop(0)
            self.must(line, words, 1, is_word(words[1:2]) and words[1] not in self.cells)
            self.must(line, words, 2, words[2:3] and words[2] in CELL_VALUES)
            self.no_more(line, words, 3)
            self.cells[words[1]] = int(words[2])
        block = self.block(1, ())
        return tuple(self.cells.items()), block

    def first(self):
        return self.rows[0][1][0] if self.rows else None

    def must(self, line, words, at, fits):
        if not fits:
            raise Wrong(line, at + 1)

    def no_more(self, line, words, many):
        if len(words) > many:
            raise Wrong(line, many + 1)

    def block(self, deep, ends):
        made = []
        while self.rows and self.first() not in ends:
            line, words = self.rows.pop(0)
            kind = words[0]
            if kind not in PARTS or self.many == 80 or (deep == 8 and kind in ("if", "while", "choose")):
                raise Wrong(line, 1)
            self.many += 1
            made.append(getattr(self, "take_" + kind)(line, words, deep))
        if ends and not self.rows:
            raise Wrong(self.end, 1)
        return tuple(made)

    def take_set(self, line, words, _):
        self.must(line, words, 1, words[1:2] and words[1] in self.cells)
        if words[2:3] and words[2] in self.cells:
            if len(words) == 3:
                return "set", words[1], words[2], 0
            if words[3].isdigit() and words[3].isascii():
                self.must(line, words, 2, words[3] in ["1", "2", "3", "4", "5"])
            self.must(line, words, 3, words[3] in ["1", "2", "3", "4", "5"])
            self.no_more(line, words, 4)
            return "set", words[1], words[2], int(words[3])
        self.must(line, words, 2, words[2:3] and words[2] in ["0", "1", "2", "3", "4", "5"])
        self.no_more(line, words, 3)
        return "set", words[1], None, int(words[2])

    def take_say(self, line, words, _):
        self.must(line, words, 1, is_word(words[1:2]))
        self.no_more(line, words, 2)
        return "say", words[1]

    def take_stop(self, line, words, _):
        self.no_more(line, words, 1)
        return ("stop",)

    def test(self, line, words):
        self.must(line, words, 1, words[1:2] and words[1] in self.cells)
        self.must(line, words, 2, words[2:3] in (["="], ["!="]))
        self.must(line, words, 3, words[3:4] in [[str(number)] for number in range(self.cells[words[1]])])
        self.no_more(line, words, 4)
        return words[1], words[2] == "=", int(words[3])

    def take_if(self, line, words, deep):
        test = self.test(line, words)
        block = self.block(deep + 1, ("else", "end"))
        other = ()
        if self.first() == "else":
            self.take_plain()
            other = self.block(deep + 1, ("end",))
        self.take_plain()
        return "if", test, block, other

    def take_plain(self):
        line, words = self.rows.pop(0)
        self.no_more(line, words, 1)

    def take_while(self, line, words, deep):
        test = self.test(line, words)
        block = self.block(deep + 1, ("end",))
        self.take_plain()
        return "while", test, block

    def take_choose(self, line, words, deep):
        self.no_more(line, words, 1)
        options = []
        if not self.rows:
            raise Wrong(self.end, 1)
        while not options or self.first() == "option":
            line, words = self.rows.pop(0)
            self.must(line, words, 0, words[0] == "option" and len(options) < 6)
            self.must(line, words, 1, words[1:2] == ["-"] or is_word(words[1:2]))
            self.no_more(line, words, 2)
            options.append((None if words[1] == "-" else words[1], self.block(deep + 1, ("option", "end"))))
        self.take_plain()
        return "choose", tuple(options)


def is_word(words):
    return len(words) == 1 and 1 <= len(words[0]) <= 8 and set(words[0]) <= set("abcdefghijklmnopqrstuvwxyz")


def reread(text):
    """The program of a text, or the line and the word at which it is wrong."""
    try:
        return Rereader(text).program(), None
    except Wrong as wrong:
        return None, wrong.where
