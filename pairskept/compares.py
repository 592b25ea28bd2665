"""Designs compared: what one shows beside another, for all programs, and the tests that tell them apart."""

from pairskept.designs import WORDS, all_designs, check_design
from pairskept.errors import BadName

# Eleven triples: a name, a program, and the outcome that a design shows or does not.
TESTS = (
    (
        "rr",
        ((("read", 0, 0), ("read", 1, 1)), (("write", 1, 1), ("fence",), ("write", 0, 1))),
        (((1, 0), (0, 0)), (1, 1, 0)),
    ),
    (
        "rw",
        ((("read", 0, 0), ("write", 1, 1)), (("read", 0, 1), ("fence",), ("write", 0, 1))),
        (((1, 0), (1, 0)), (1, 1, 0)),
    ),
    (
        "wr",
        ((("write", 0, 1), ("read", 0, 1)), (("write", 1, 1), ("fence",), ("read", 0, 0))),
        (((0, 0), (0, 0)), (1, 1, 0)),
    ),
    (
        "ww",
        ((("write", 0, 1), ("write", 1, 1)), (("read", 0, 1), ("fence",), ("read", 1, 0))),
        (((0, 0), (1, 0)), (1, 1, 0)),
    ),
    (
        "ss",
        ((("read", 0, 0), ("read", 1, 0)), (("write", 0, 1),)),
        (((1, 0), (0, 0)), (1, 0, 0)),
    ),
    (
        "gw",
        (
            (("read", 0, 0), ("guard", 0, 1), ("write", 1, 1)),
            (("read", 0, 1), ("fence",), ("write", 0, 1)),
        ),
        (((1, 0), (1, 0)), (1, 1, 0)),
    ),
    (
        "gr",
        (
            (("read", 0, 0), ("guard", 0, 1), ("read", 1, 1)),
            (("write", 1, 1), ("fence",), ("write", 0, 1)),
        ),
        (((1, 0), (0, 0)), (1, 1, 0)),
    ),
    (
        "gr same",
        ((("read", 0, 0), ("guard", 0, 1), ("read", 1, 0)), (("write", 0, 1),)),
        (((1, 0), (0, 0)), (1, 0, 0)),
    ),
    (
        "own copy",
        (
            (("write", 0, 1), ("read", 0, 0), ("copy", 1, 0)),
            (("read", 0, 1), ("fence",), ("read", 1, 0)),
        ),
        (((1, 0), (1, 0)), (1, 1, 0)),
    ),
    (
        "own rr",
        (
            (("write", 0, 1), ("read", 0, 0), ("read", 1, 1)),
            (("write", 1, 1), ("fence",), ("read", 0, 0)),
        ),
        (((1, 0), (0, 0)), (1, 1, 0)),
    ),
    (
        "own gr",
        (
            (("write", 0, 1), ("read", 0, 0), ("guard", 0, 1), ("read", 1, 1)),
            (("write", 1, 1), ("fence",), ("read", 0, 0)),
        ),
        (((1, 0), (0, 0)), (1, 1, 0)),
    ),
)

# The words that no other word can stand for.
KEEPING = ("rr", "rw", "wr", "ww", "ss")

# For each test without "own" the words of which one is enough to hide its outcome.
HIDING = {
    "rr": ("rr",),
    "rw": ("rw",),
    "wr": ("wr",),
    "ww": ("ww",),
    "ss": ("ss",),
    "gw": ("gw", "rw"),
    "gr": ("gr", "rr"),
    "gr same": ("gr", "ss"),
}


def tests():
    """The tests, each one a name, a program and an outcome."""
    return TESTS


def below(one, other):
    """Whether one design shows, for all programs, only what the other one shows."""
    check_design(one)
    check_design(other)
    return is_below(one, other)


def alike(one, other):
    """Whether two designs show the same, for all programs."""
    check_design(one)
    check_design(other)
    return is_below(one, other) and is_below(other, one)


def is_below(one, other):
    """What below tells, for values that are designs."""
    if any([word in other and word not in one for word in KEEPING]):
        return False
    if "gw" in other and not keeps_guarded_writings(one):
        return False
    if "gr" in other and not keeps_guarded_readings(one):
        return False
    return "own" not in one or "own" in other or hides_own(one, other)


def keeps_guarded_writings(design):
    """Whether a design shows no writing ahead of a guard that stands ahead of it."""
    return "gw" in design or "rw" in design


def keeps_guarded_readings(design):
    """Whether a design shows no reading ahead of a guard that stands ahead of it."""
    return "gr" in design or ("rr" in design and "ss" in design)


def hides_own(one, other):
    """Whether "own" in one design shows nothing that the other one does not show without it."""
    if "ww" not in one:
        return False
    return "wr" in one or ("rr" not in other and "gr" not in other)


def shows(design, name):
    """Whether a design shows the outcome of the test with a name."""
    check_design(design)
    check_name(name)
    return is_shown(design, name)


def check_name(value):
    """Raises BadName for a value that is no name of a test."""
    if value not in [test[0] for test in TESTS]:
        raise BadName("no name of a test")


def is_shown(design, name):
    """What shows tells, for a design and a name of a test."""
    if name == "own copy":
        return "own" in design and "ww" not in design
    if name == "own rr":
        return "wr" not in design and ("own" in design or "rr" not in design)
    if name == "own gr":
        return "wr" not in design and ("own" in design or ("rr" not in design and "gr" not in design))
    return all([word not in design for word in HIDING[name]])


def first_test(one, other):
    """The name of the first test that one design shows and the other one does not, None if there is none."""
    check_design(one)
    check_design(other)
    for test in TESTS:
        if is_shown(one, test[0]) and not is_shown(other, test[0]):
            return test[0]
    return None


def normal(design):
    """The design, alike to a design, that stands for all that are alike to it."""
    check_design(design)
    return normal_of(design)


def normals():
    """All designs that are normal, ascending."""
    return tuple([design for design in all_designs() if normal_of(design) == design])


def normal_of(design):
    """What normal tells, for a value that is a design."""
    return tuple([word for word in WORDS if is_held_by_normal(design, word)])


def is_held_by_normal(design, word):
    """Whether the normal design that is alike to a design holds a word."""
    if word == "gw":
        return keeps_guarded_writings(design)
    if word == "gr":
        return keeps_guarded_readings(design)
    if word == "own":
        return "own" in design and not hides_own(design, design)
    return word in design
