"""Instructions, cores and programs: what is one, and what an instruction reads and writes."""

from pairskept.errors import BadCore, BadProgram

MOST_CORES = 3
MOST_IN_CORE = 5
MOST_IN_ALL = 10

# The greatest value of each number that stands behind the word of an instruction:
# 1 for one of the registers, 2 for a cell, 9 for a word of memory.
GREATEST = {
    "read": (1, 2),
    "write": (2, 9),
    "copy": (2, 1),
    "fence": (),
    "guard": (1, 9),
}


def is_number(value, greatest):
    """Whether a value is an integer from 0 to the greatest one."""
    # Python counts True and False as integers, the package does not.
    return isinstance(value, int) and not isinstance(value, bool) and 0 <= value <= greatest


def is_word(value):
    """Whether a value is a word of memory."""
    return is_number(value, GREATEST["write"][1])


def is_instruction(value):
    """Whether a value is an instruction."""
    if not isinstance(value, tuple) or len(value) == 0 or not isinstance(value[0], str):
        return False
    limits = GREATEST.get(value[0])
    if limits is None or len(value) != 1 + len(limits):
        return False
    return all([is_number(number, limit) for number, limit in zip(value[1:], limits)])


def is_core(value):
    """Whether a value is a core."""
    if not isinstance(value, tuple) or len(value) > MOST_IN_CORE:
        return False
    return all([is_instruction(item) for item in value])


def check_core(value):
    """Raises BadCore for a value that is no core."""
    if not is_core(value):
        raise BadCore("no core")


def check_program(value):
    """Raises BadProgram for a value that is no program."""
    if not isinstance(value, tuple) or not 1 <= len(value) <= MOST_CORES:
        raise BadProgram(None)
    total = 0
    for at, core in enumerate(value):
        if not is_core(core) or total + len(core) > MOST_IN_ALL:
            raise BadProgram(at)
        total += len(core)


def is_small_enough(cores):
    """Whether some cores have no more instructions, each one and in all, than a program may have."""
    sizes = [len(core) for core in cores]
    return max(sizes) <= MOST_IN_CORE and sum(sizes) <= MOST_IN_ALL


def is_reading(instruction):
    """Whether an instruction reads a cell."""
    return instruction[0] == "read"


def is_writing(instruction):
    """Whether an instruction writes a cell."""
    return instruction[0] in ("write", "copy")


def cell_of(instruction):
    """The cell that an instruction reads or writes, None if it does neither."""
    if is_reading(instruction):
        return instruction[2]
    if is_writing(instruction):
        return instruction[1]
    return None


def used_by(instruction):
    """Which one of the registers a copy or a guard looks at, None for other instructions."""
    if instruction[0] == "copy":
        return instruction[2]
    if instruction[0] == "guard":
        return instruction[1]
    return None


def last_read(core, number, place):
    """The place of the last read ahead of a place into a numbered one of the registers, or None."""
    found = None
    for at in range(place):
        if is_reading(core[at]) and core[at][1] == number:
            found = at
    return found


def last_writing(core, cell, place):
    """The place of the last writing of a cell ahead of a place, or None."""
    found = None
    for at in range(place):
        if is_writing(core[at]) and cell_of(core[at]) == cell:
            found = at
    return found
