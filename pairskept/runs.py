"""Runs of a program: its steps, which of them can come at a time, and what each one does."""

from pairskept.designs import must_wait
from pairskept.programs import cell_of, is_reading, is_writing, last_read, last_writing, used_by

FIRST_CELLS = (0, 0, 0)

# What a state holds, in the place of a word, for a step that its core never comes to.
LEFT_OUT = -1


class Step:
    """One instruction of a program; the steps of a program are numbered in the order of their events."""

    def __init__(self, number, core, place, start, waits_for):
        self.event = (number, place)
        self.instruction = core[place]
        self.waits = tuple([start + first for first in range(place) if waits_for(core, first, place)])
        self.behind = tuple([start + later for later in range(place + 1, len(core))])
        at = source_of(core, place)
        self.source = None if at is None else start + at


def source_of(core, place):
    """The place ahead whose word an instruction may take: of a read for a copy or guard, of a writing for a read."""
    instruction = core[place]
    if is_reading(instruction):
        return last_writing(core, cell_of(instruction), place)
    if used_by(instruction) is not None:
        return last_read(core, used_by(instruction), place)
    return None


def steps_on(design, program):
    """The steps of a program on a design."""
    return make_steps(program, lambda core, first, second: must_wait(design, core, first, second))


def steps_in_order(program):
    """The steps of a program of which each waits for all ahead of it in its core."""
    return make_steps(program, lambda core, first, second: True)


def make_steps(program, waits_for):
    """The steps of a program, waits_for telling of two places of a core whether the second waits for the first."""
    steps = []
    for number, core in enumerate(program):
        start = len(steps)
        steps = steps + [Step(number, core, place, start, waits_for) for place in range(len(core))]
    return steps


# A state is a pair: for each step its word, if it is done, otherwise None or LEFT_OUT; the words of the cells.
# The word of a read is what it took; of the other steps the word tells nothing and is 0.


def first_state(steps):
    """The state ahead of all events."""
    return ((None,) * len(steps), FIRST_CELLS)


def is_over(state):
    """Whether the run has ended."""
    return None not in state[0]


def steps_now(steps, state):
    """The numbers of the steps that can come, ascending."""
    words = state[0]
    return [at for at, step in enumerate(steps) if words[at] is None and can_come(step, words)]


def can_come(step, words):
    """Whether a step that is not done, and not left out, can come."""
    for other in step.waits:
        if words[other] is None:
            return False
    # A core cannot end ahead of what it has done.
    return not ends_core(step, words) or all([words[other] is None for other in step.behind])


def ends_core(step, words):
    """Whether a step is a guard at which its core ends."""
    return step.instruction[0] == "guard" and word_used(step, words) != step.instruction[2]


def word_used(step, words):
    """The word that a copy or a guard looks at."""
    if step.source is None:
        return 0
    return words[step.source]


def word_written(step, words):
    """The word that a write or a copy writes."""
    if step.instruction[0] == "write":
        return step.instruction[2]
    return word_used(step, words)


def word_taken(steps, state, step):
    """The word that a read takes."""
    words, cells = state
    if step.source is not None and words[step.source] is None:
        return word_written(steps[step.source], words)
    return cells[cell_of(step.instruction)]


def state_behind(steps, state, at):
    """The state behind a step, told by its number, that can come in a state."""
    step = steps[at]
    words, cells = list(state[0]), list(state[1])
    words[at] = 0
    if is_reading(step.instruction):
        words[at] = word_taken(steps, state, step)
    elif is_writing(step.instruction):
        cells[cell_of(step.instruction)] = word_written(step, state[0])
    elif ends_core(step, state[0]):
        for other in step.behind:
            words[other] = LEFT_OUT
    return (tuple(words), tuple(cells))


def outcome_of(steps, program, state):
    """The outcome of a run that has ended in a state."""
    registers = [[0, 0] for _ in program]
    # The steps of a core come by their places here, so that the last read is told.
    for step, word in zip(steps, state[0]):
        if is_reading(step.instruction) and word != LEFT_OUT:
            registers[step.event[0]][step.instruction[1]] = word
    return (tuple([tuple(pair) for pair in registers]), state[1])
