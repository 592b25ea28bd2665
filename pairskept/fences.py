"""Plain programs, and where fences make a program plain."""

from itertools import combinations

from pairskept.designs import check_design
from pairskept.errors import BadPlaces, NotMade
from pairskept.outcomes import outcomes, plain_outcomes
from pairskept.programs import MOST_IN_CORE, check_program, is_number, is_small_enough

FENCE = ("fence",)


def is_plain(design, program):
    """Whether the outcomes of a program on a design are its plain outcomes."""
    return outcomes(design, program) == plain_outcomes(program)


def strange(design, program):
    """The least outcome of a program on a design that is not plain, None if there is none."""
    found = outcomes(design, program)
    plain = set(plain_outcomes(program))
    for outcome in found:
        if outcome not in plain:
            return outcome
    return None


def fenced(program, places):
    """The program with a fence ahead of each of some places."""
    check_program(program)
    check_places_for_fences(program, places)
    made = with_fences(program, places)
    if not is_small_enough(made):
        raise NotMade("too many instructions")
    return made


def fewest_fences(design, program):
    """The least of the tuples of the fewest places such that the program fenced there is plain on a design."""
    check_design(design)
    check_program(program)
    free = places_for_fences(program)
    for many in range(len(free) + 1):
        # The free places ascend, and so do the tuples of as many of them.
        for places in combinations(free, many):
            made = with_fences(program, places)
            if is_small_enough(made) and is_plain(design, made):
                return places
    raise NotMade("too many instructions for the fences that are needed")


def places_for_fences(program):
    """All pairs (core, place) ahead of which a fence may come, ascending."""
    return [(number, place) for number, core in enumerate(program) for place in range(1, len(core))]


def check_places_for_fences(program, value):
    """Raises BadPlaces for a value that is no ascending tuple of unlike places of a program for fences."""
    if not isinstance(value, tuple) or not all([is_pair(item) for item in value]):
        raise BadPlaces("no tuple of pairs of numbers")
    if value != tuple([place for place in places_for_fences(program) if place in value]):
        raise BadPlaces("no places for fences, or not ascending and unlike")


def is_pair(value):
    """Whether a value is a pair of numbers such as those of a place."""
    # (0, True) is no place, although Python takes it for (0, 1).
    return isinstance(value, tuple) and len(value) == 2 and all([is_number(part, MOST_IN_CORE) for part in value])


def with_fences(program, places):
    """What fenced makes, also if it has too many instructions for a program."""
    return tuple([core_with_fences(core, number, places) for number, core in enumerate(program)])


def core_with_fences(core, number, places):
    """The core of a number with a fence ahead of each of its places among some."""
    made = ()
    for place, instruction in enumerate(core):
        if (number, place) in places:
            made = made + (FENCE,)
        made = made + (instruction,)
    return made
