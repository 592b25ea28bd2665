"""Hands: which events can come behind a row, whether the run has ended, and what it tells then."""

from pairskept.designs import check_design
from pairskept.errors import BadRow, NotMade
from pairskept.programs import MOST_IN_ALL, check_program, is_number
from pairskept.runs import first_state, is_over, outcome_of, state_behind, steps_now, steps_on


def events_behind(design, program, row):
    """The events that can come behind a row, ascending."""
    steps = checked_steps(design, program)
    state = state_behind_row(steps, row)
    return tuple([steps[at].event for at in steps_now(steps, state)])


def has_ended(design, program, row):
    """Whether the run has ended behind a row."""
    steps = checked_steps(design, program)
    return is_over(state_behind_row(steps, row))


def told_by(design, program, row):
    """The outcome of the run that has ended behind a row."""
    steps = checked_steps(design, program)
    state = state_behind_row(steps, row)
    if not is_over(state):
        raise NotMade("the run has not ended")
    return outcome_of(steps, program, state)


def cells_behind(design, program, row):
    """The words of the cells behind a row."""
    steps = checked_steps(design, program)
    return state_behind_row(steps, row)[1]


def checked_steps(design, program):
    """The steps of a program on a design; raises BadDesign or BadProgram."""
    check_design(design)
    check_program(program)
    return steps_on(design, program)


def state_behind_row(steps, row):
    """The state behind a row; raises BadRow for a value that is none."""
    if not isinstance(row, tuple) or len(row) > MOST_IN_ALL:
        raise BadRow(None)
    state = first_state(steps)
    for index, event in enumerate(row):
        at = number_of(steps, event)
        if at not in steps_now(steps, state):
            raise BadRow(index)
        state = state_behind(steps, state, at)
    return state


def number_of(steps, event):
    """The number of the step with an event, None for a value that is no event of the program."""
    # (True, False) is no event, although Python takes it for (1, 0).
    if not isinstance(event, tuple) or not all([is_number(part, MOST_IN_ALL) for part in event]):
        return None
    for at, step in enumerate(steps):
        if step.event == event:
            return at
    return None
