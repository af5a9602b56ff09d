"""The enemy's story by which two lives are heard (point 9)."""

from onelife.checks import check_life, check_setting
from onelife.errors import BadStory, NotAlong, TooMany
from onelife.rows import are_along
from onelife.stories import BIRTH, lived
from onelife.walks import marks_along, path_of, words_along

MOST_MARKS = 20


def story_of(machine, marks, table, one, other):
    """A story in which two lives, and each first part of them that says a word, have spoken."""
    _check_lives(machine, marks, table, one, other)
    spelled = [marks_along(machine, table, life) for life in (one, other)]
    if not are_along(spelled[0], spelled[1]):
        raise NotAlong("the marks of neither life begin those of the other")
    if max(len(spelled[0]), len(spelled[1])) > MOST_MARKS:
        raise TooMany(MOST_MARKS)
    short, long = sorted([way_of(machine, table, life) for life in (one, other)], key=len)
    return tuple(steps_along(short, long))


def shows_story(machine, marks, table, one, other, value):
    """Whether a value is a story in which, of each life, the longest first part that says a word has spoken."""
    _check_lives(machine, marks, table, one, other)
    try:
        speakers = lived(machine, table, value).speakers
    except BadStory:
        return False
    parts = [last_speaker(machine, life) for life in (one, other)]
    return all([part is None or part in speakers for part in parts])


def _check_lives(machine, marks, table, one, other):
    check_setting(machine, marks, table)
    check_life(machine, one)
    check_life(machine, other)


def last_speaker(machine, life):
    """The longest first part of a life whose last option says a word, None without one."""
    words = words_along(machine, life)
    for many in range(len(life), 0, -1):
        if words[many - 1] is not None:
            return life[:many]
    return None


def way_of(machine, table, life):
    """For each number of marks of a life, 0 included, the note to be booted and the option to be asked, if any."""
    way = []
    note = BIRTH
    for at, (state, option) in enumerate(path_of(machine, life)):
        asked = option
        for done, mark in enumerate(table[state][option]):
            way.append((note, asked))
            note = (len(way), mark, life[:at + 1], done + 1)
            asked = None
    way.append((note, None))
    return way


def steps_along(short, long):
    """The steps of a story along two ways of which the marks of the short one begin those of the long one."""
    steps = []
    for count, (note, asked) in enumerate(long):
        if count < len(short):
            steps.extend(visit(short[count][0], short[count][1]))
            steps.append(("cut",))
        steps.extend(visit(note, asked))
        # The wheel goes on only now, when each of both has sealed its note for the mark.
        if count + 1 < len(long):
            steps.extend([("turn",), ("cut",)])
    return steps


def visit(note, asked):
    """The steps that boot a note, by which what is due is said, and ask the option, if there is one."""
    return [("boot", note)] if asked is None else [("boot", note), ("ask", asked)]
