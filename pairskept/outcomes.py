"""Outcomes of a program on a design, with the rows that lead to them."""

from pairskept.designs import check_design
from pairskept.errors import NotMade
from pairskept.programs import check_program, is_word
from pairskept.runs import first_state, is_over, outcome_of, state_behind, steps_in_order, steps_now, steps_on


def outcomes(design, program):
    """The outcomes of all rows behind which the run has ended, ascending."""
    return tuple(sorted(checked_ways(design, program)))


def plain_outcomes(program):
    """The outcomes of the rows in which each core's instructions come in their order, ascending."""
    check_program(program)
    return tuple(sorted(ways_to_outcomes(steps_in_order(program), program)))


def row_for(design, program, outcome):
    """The least row that leads to an outcome."""
    ways = checked_ways(design, program)
    # Python takes True for 1, so that the form counts besides being among the outcomes.
    if not has_form_of_outcome(outcome) or outcome not in ways:
        raise NotMade("no outcome of the program on the design")
    return ways[outcome][0]


def count_rows(design, program):
    """The number of the rows behind which the run has ended."""
    ways = checked_ways(design, program)
    return sum([many for _, many in ways.values()])


def checked_ways(design, program):
    """What ways_to_outcomes tells of a program on a design; raises BadDesign or BadProgram."""
    check_design(design)
    check_program(program)
    return ways_to_outcomes(steps_on(design, program), program)


def ways_to_outcomes(steps, program):
    """For each outcome of a program a pair: the least row that leads to it, and how many rows do."""
    ways = {}
    # Many rows lead to one state, and what comes behind it is the same for all of them.
    states = {first_state(steps): ((), 1)}
    while states:
        for state, (row, many) in states.items():
            if is_over(state):
                add_rows(ways, outcome_of(steps, program, state), row, many)
        states = states_behind(steps, states)
    return ways


def states_behind(steps, states):
    """The states one event behind others, each with the least row that leads to it, and how many rows do."""
    found = {}
    for state, (row, many) in states.items():
        for at in steps_now(steps, state):
            add_rows(found, state_behind(steps, state, at), row + (steps[at].event,), many)
    return found


def add_rows(ways, end, row, many):
    """Adds to the ways some rows that lead to an end: the least of them, and how many they are."""
    if end in ways:
        least, others = ways[end]
        ways[end] = (min(least, row), others + many)
    else:
        ways[end] = (row, many)


def has_form_of_outcome(value):
    """Whether a value is made as outcomes are: of tuples, and of words, of which True and False are none."""
    if not isinstance(value, tuple) or len(value) != 2:
        return False
    registers, cells = value
    return isinstance(registers, tuple) and all([are_words(item) for item in registers]) and are_words(cells)


def are_words(value):
    """Whether a value is a tuple of words."""
    return isinstance(value, tuple) and all([is_word(item) for item in value])
