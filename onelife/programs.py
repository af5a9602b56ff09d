"""A language of programs (points 40 and 41)."""

from onelife.checks import is_tuple, is_within
from onelife.errors import BadLife, TooMany
from onelife.numberings import Numbering
from onelife.parts import check_program
from onelife.runs import Script

MOST_STATES = 40


def said(program, life):
    """The words that a life of a program says, in order."""
    words, _ = _lived(program, life)
    return tuple([word for word in words if word is not None])


def cells_after(program, life):
    """The values of the cells behind a life of a program, when the run has gone on as far as it does by itself."""
    _, cells = _lived(program, life)
    return cells


def _lived(program, life):
    """The words of a life's options, None for one that says nothing, and the values of the cells behind it."""
    check_program(program)
    if not is_tuple(life, 0, 40):
        raise BadLife("no tuple of 0 to 40 options")
    script = Script(program)
    stand = script.first_stand()
    words = []
    # Option by option, so that a run that goes on for ever is found ahead of a later option that is none.
    for option in life:
        ways = script.ways_from(stand)
        if not is_within(option, 0, len(ways) - 1):
            raise BadLife("no option where it stands")
        word, todo = ways[option]
        words.append(word)
        stand = script.stand_from(stand[0], todo)
    return words, stand[0]


def machine_of(program):
    """The machine that a program is."""
    check_program(program)
    script = Script(program)
    stands = Numbering(script.first_stand())
    machine = []
    while len(machine) < min(len(stands.numbered), MOST_STATES):
        stand = stands.numbered[len(machine)]
        behind = [(script.stand_from(stand[0], todo), word) for word, todo in script.ways_from(stand)]
        machine.append(tuple([(stands.number_of(following), word) for following, word in behind]))
    # Asked only now, because a run without an end behind one of the first states comes ahead of it.
    if len(stands.numbered) > MOST_STATES:
        raise TooMany(MOST_STATES)
    return tuple(machine)


def write_program(program):
    """The text of a program."""
    check_program(program)
    cells, block = program
    return "\n".join([f"cell {name} {values}" for name, values in cells] + _block_lines(block))


def _block_lines(block):
    return [line for part in block for line in _part_lines(part)]


def _part_lines(part):
    kind = part[0]
    if kind == "set":
        return [_set_line(part)]
    if kind == "choose":
        options = [line for option in part[1] for line in _option_lines(option)]
        return ["choose"] + options + ["end"]
    if kind in ("say", "stop"):
        return [" ".join(part)]
    name, equal, number = part[1]
    sign = "=" if equal else "!="
    lines = [f"{kind} {name} {sign} {number}"] + _block_lines(part[2])
    if kind == "if" and part[3]:
        lines = lines + ["else"] + _block_lines(part[3])
    return lines + ["end"]


def _set_line(part):
    _, name, source, number = part
    words = ["set", name] if source is None else ["set", name, source]
    return " ".join(words if source is not None and number == 0 else words + [str(number)])


def _option_lines(option):
    word, block = option
    return ["option " + ("-" if word is None else word)] + _block_lines(block)
