"""Designs, and which of two instructions of one core must be done ahead of the other."""

from pairskept.errors import BadDesign, BadPlace
from pairskept.programs import cell_of, check_core, is_number, is_reading, is_writing
from pairskept.programs import last_read, last_writing, used_by

WORDS = ("gr", "gw", "own", "rr", "rw", "ss", "wr", "ww")


def is_design(value):
    """Whether a value is a design."""
    return isinstance(value, tuple) and value == tuple([word for word in WORDS if word in value])


def check_design(value):
    """Raises BadDesign for a value that is no design."""
    if not is_design(value):
        raise BadDesign("no design")


def all_designs():
    """All designs, ascending."""
    found = [()]
    for word in WORDS:
        found = found + [design + (word,) for design in found]
    return tuple(sorted(found))


def must_be_done(design, core, first, second):
    """Whether, of two places of a core, the first must be done ahead of the second."""
    check_design(design)
    check_core(core)
    check_places(core, first, second)
    return must_wait(design, core, first, second)


def must_wait(design, core, first, second):
    """Whether, of two places of a core in their order, the first must be done ahead of the second."""
    return is_kept(design, core, first, second) or waits_for_copied(design, core, first, second)


def check_places(core, first, second):
    """Raises BadPlace unless both are places of the core, the first one less than the second."""
    last = len(core) - 1
    if not is_number(first, last) or not is_number(second, last) or first >= second:
        raise BadPlace("no two places of the core in their order")


def is_kept(design, core, first, second):
    """Whether the first must be done ahead of the second, whatever else of the core is done."""
    earlier, later = core[first], core[second]
    if earlier[0] == "fence" or later[0] == "fence":
        return True
    if used_by(later) is not None and last_read(core, used_by(later), second) == first:
        return True
    if earlier[0] == "guard":
        return is_kept_behind_guard(design, later)
    if cell_of(earlier) is None or cell_of(later) is None:
        return False
    if cell_of(earlier) == cell_of(later):
        return is_kept_on_cell(design, earlier, later)
    return kind_of(earlier) + kind_of(later) in design


def is_kept_behind_guard(design, later):
    """Whether an instruction that is no fence must wait for a guard ahead of it."""
    if is_reading(later):
        return "gr" in design
    if is_writing(later):
        return "gw" in design
    # What is left is a guard.
    return True


def is_kept_on_cell(design, earlier, later):
    """Whether two readings or writings of one cell stay in order."""
    if is_writing(later):
        return True
    if is_writing(earlier):
        return "own" not in design
    return "ss" in design


def kind_of(instruction):
    """The letter that the words of a design have for a reading or a writing."""
    if is_reading(instruction):
        return "r"
    return "w"


def waits_for_copied(design, core, first, second):
    """Whether the second reads what a copy will write, and the first reads what it will copy."""
    # With "own" the reading may come ahead of the copy, but not ahead of the copied word.
    if "own" not in design or not is_reading(core[second]):
        return False
    source = last_writing(core, cell_of(core[second]), second)
    if source is None or core[source][0] != "copy":
        return False
    return last_read(core, used_by(core[source]), source) == first
