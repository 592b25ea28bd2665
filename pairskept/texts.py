"""Programs and designs as texts."""

from pairskept.designs import check_design, is_design
from pairskept.errors import InvalidText, NotText
from pairskept.programs import MOST_CORES, MOST_IN_ALL, check_program, is_core

# The text of a core without instructions, and of a design without words.
NONE_THERE = "-"


def write_program(program):
    """The text of a program, a line for each core."""
    check_program(program)
    return "\n".join([write_core(core) for core in program])


def read_program(text):
    """The program of a text."""
    check_text(text)
    program = ()
    left = MOST_IN_ALL
    for at, line in enumerate(text.split("\n")):
        core = read_core(line)
        if core is None or len(core) > left or at == MOST_CORES:
            raise InvalidText(at + 1)
        program = program + (core,)
        left -= len(core)
    return program


def write_design(design):
    """The text of a design."""
    check_design(design)
    if design == ():
        return NONE_THERE
    return " ".join(design)


def read_design(text):
    """The design of a text."""
    check_text(text)
    design = () if text == NONE_THERE else tuple(text.split(" "))
    if not is_design(design):
        raise InvalidText(1)
    return design


def check_text(value):
    """Raises NotText for a value that is no string."""
    if not isinstance(value, str):
        raise NotText("no string")


def write_core(core):
    """The line of a core."""
    if core == ():
        return NONE_THERE
    return "; ".join([" ".join([str(item) for item in instruction]) for instruction in core])


def read_core(line):
    """The core of a line, None for a line that is no core."""
    if line == NONE_THERE:
        return ()
    core = tuple([read_items(part) for part in line.split("; ")])
    return core if is_core(core) else None


def read_items(part):
    """The items of an instruction in a line, with None in the place of what is no number."""
    words = part.split(" ")
    return tuple(words[:1] + [read_number(word) for word in words[1:]])


def read_number(word):
    """The number that a word tells, None if it tells none that an instruction can hold."""
    # No such number has two digits, and Python makes no number of a word of thousands of them.
    if len(word) == 1 and is_numeral(word):
        return int(word)
    return None


def is_numeral(word):
    """Whether a word is a number from 0 on, without a sign and without a needless 0."""
    # Python takes more characters for digits than the ten of ASCII.
    if not word.isascii() or not word.isdigit():
        return False
    return word == "0" or not word.startswith("0")
