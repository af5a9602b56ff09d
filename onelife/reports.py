"""Stories as text, and what they and lives tell, line by line (points 45 and 46)."""

from onelife.checks import check_life, check_setting, check_string, is_tuple, is_within
from onelife.errors import BadLine, BadStory
from onelife.rows import are_along
from onelife.stories import MOST_STEPS, World, lived
from onelife.texts import lines_in
from onelife.walks import marks_along, state_behind, told_along

MOST_COUNT = 999
MOST_OPTIONS = 40
OPTIONS = ("0", "1", "2", "3", "4", "5")
MARKS = ("0", "1", "2", "3")

# What stands behind the first word of the line of each step.
KINDS = {"boot": ("number", "mark", "life", "number"), "ask": ("option",), "turn": (), "cut": ()}


def write_story(story):
    """The text of a story; whether its steps can be done is not asked."""
    if not is_tuple(story, 0, MOST_STEPS):
        raise BadStory(None)
    for index, step in enumerate(story):
        if not is_writable(step):
            raise BadStory(index)
    return "\n".join([_step_line(step) for step in story])


def is_writable(value):
    """Whether a value has the form of a step that can be written."""
    if value == ("turn",) or value == ("cut",):
        return True
    if not is_tuple(value, 2, 2):
        return False
    word, what = value
    if word == "ask":
        return is_option_number(what)
    return word == "boot" and is_writable_note(what)


def is_option_number(value):
    """Whether a value is the number of an option that a state may have."""
    return is_within(value, 0, len(OPTIONS) - 1)


def is_writable_note(value):
    """Whether a value has the form of a note that can be written."""
    if not is_tuple(value, 4, 4):
        return False
    count, mark, life, done = value
    if not is_within(count, 0, MOST_COUNT) or not is_within(done, 0, MOST_COUNT):
        return False
    if mark is not None and not is_within(mark, 0, len(MARKS) - 1):
        return False
    return is_tuple(life, 0, MOST_OPTIONS) and all([is_option_number(option) for option in life])


def _step_line(step):
    if step[0] == "ask":
        return f"ask {step[1]}"
    if step[0] != "boot":
        return step[0]
    count, mark, life, done = step[1]
    options = ",".join([str(option) for option in life]) if life else "-"
    return f"boot {count} {_mark_word(mark)} {options} {done}"


def _mark_word(mark):
    return "-" if mark is None else str(mark)


def read_story(text):
    """The story that a text tells."""
    check_string(text)
    steps = []
    for number, words in enumerate(lines_in(text), start=1):
        if not words:
            continue
        wrong = 1 if len(steps) == MOST_STEPS else wrong_word(words)
        if wrong is not None:
            raise BadLine(number, wrong)
        steps.append(_step_told(words))
    return tuple(steps)


def wrong_word(words):
    """The first word of a line that cannot stand, is one too many or is lacking, counted from 1, None without one."""
    if words[0] not in KINDS:
        return 1
    kinds = KINDS[words[0]]
    for at, kind in enumerate(kinds, start=1):
        if at == len(words) or not can_stand(kind, words[at]):
            return at + 1
    return len(kinds) + 2 if len(words) > len(kinds) + 1 else None


def can_stand(kind, word):
    """Whether a word can stand where one of a kind must."""
    if kind == "number":
        return is_number_word(word)
    if kind == "option":
        return word in OPTIONS
    if word == "-":
        return True
    if kind == "mark":
        return word in MARKS
    options = word.split(",")
    return len(options) <= MOST_OPTIONS and all([option in OPTIONS for option in options])


def is_number_word(word):
    """Whether a word is an integer from 0 to 999 without needless figures."""
    if len(word) > len(str(MOST_COUNT)) or not all(["0" <= figure <= "9" for figure in word]):
        return False
    return word == "0" or word[0] != "0"


def _step_told(words):
    if words[0] == "ask":
        return "ask", int(words[1])
    if words[0] != "boot":
        return (words[0],)
    _, count, mark, life, done = words
    options = () if life == "-" else tuple([int(option) for option in life.split(",")])
    return "boot", (int(count), None if mark == "-" else int(mark), options, int(done))


def report(machine, marks, table, story):
    """A line for each step of a story: the step, how the machine stands then, and what it said by it."""
    check_setting(machine, marks, table)
    # Told only of a whole story, so that one with a wrong step is refused first.
    lived(machine, table, story)
    world = World(machine, table)
    lines = []
    for step in story:
        before = len(world.sayings)
        world.do_step(step)
        said = [f", says {told_words([pair])}" for pair in world.sayings[before:]]
        lines.append(_deed_words(world, step) + ": " + _standing_words(world) + "".join(said))
    return tuple(lines)


def _deed_words(world, step):
    if step[0] == "ask":
        return f"ask {step[1]}"
    if step[0] == "turn":
        return f"turn {world.reading[0]} by mark {world.reading[1]}"
    return step[0]


def _standing_words(world):
    how = world.standing[0]
    if how == "choice":
        return f"at the choice of state {state_behind(world.machine, world.standing[1])}"
    if how == "sealed":
        count, mark, _, _ = world.standing[1]
        return f"sealed for turn {count} by mark {mark}"
    return how


def told_words(told):
    """The pairs of a telling as words, or that there are none."""
    return ", ".join([f"{word} at {number}" for number, word in told]) if told else "nothing"


def tell_lives(machine, marks, table, one, other):
    """Four lines: what two lives tell, what both turn at first, and whether they part."""
    check_setting(machine, marks, table)
    check_life(machine, one)
    check_life(machine, other)
    first, second = [marks_along(machine, table, life) for life in (one, other)]
    tellings = [told_along(machine, table, life) for life in (one, other)]
    alike = marks_alike(first, second)
    both = " ".join([str(mark) for mark in first[:alike]]) if alike > 0 else "nothing"
    return (
        f"one says {told_words(tellings[0])}", f"the other says {told_words(tellings[1])}", f"both turn {both}",
        _end_words(are_along(first, second), are_along(tellings[0], tellings[1]), alike))


def marks_alike(one, other):
    """How many marks two rows have alike at first."""
    unlike = [at for at, (mark, theirs) in enumerate(zip(one, other)) if mark != theirs]
    return min(unlike, default=min(len(one), len(other)))


def _end_words(turn_alike, tell_alike, alike):
    if not turn_alike:
        return f"they turn otherwise at turn {alike + 1}"
    return "they tell alike so far" if tell_alike else "they part"
