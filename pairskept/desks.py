"""A desk: a row of a program on a design, led by lines."""

from pairskept.designs import check_design
from pairskept.errors import InvalidText, NothingToUndo, NotNow
from pairskept.hands import cells_behind, events_behind, has_ended
from pairskept.outcomes import outcomes
from pairskept.programs import check_program
from pairskept.texts import check_text, is_numeral


class Desk:
    """Keeps a row of a program on a design."""

    def __init__(self, design, program):
        check_design(design)
        check_program(program)
        self._design = design
        self._program = program
        self._row = ()

    @property
    def row(self):
        """The row."""
        return self._row

    def run(self, line):
        """What a line asks for; None for a line that does an event."""
        check_text(line)
        if line == "events":
            return " ".join([f"{core}.{place}" for core, place in self._events()])
        if line == "cells":
            return " ".join([str(word) for word in cells_behind(self._design, self._program, self._row)])
        if line == "ended":
            return "yes" if has_ended(self._design, self._program, self._row) else "no"
        if line == "outcomes":
            return str(len(outcomes(self._design, self._program)))
        self._do(line)
        return None

    def undo(self):
        """Takes the last event back."""
        if self._row == ():
            raise NothingToUndo("the row has no event")
        self._row = self._row[:-1]

    def _events(self):
        """The events that can come now."""
        return events_behind(self._design, self._program, self._row)

    def _do(self, line):
        """Does the event that a line tells."""
        lines = {f"do {core} {place}": (core, place) for core, place in self._events()}
        if line not in lines:
            if tells_event(line):
                raise NotNow("the event cannot come")
            raise InvalidText(1)
        self._row = self._row + (lines[line],)


def tells_event(line):
    """Whether a line tells to do an event, be there such a one or not."""
    words = line.split(" ")
    return len(words) == 3 and words[0] == "do" and is_numeral(words[1]) and is_numeral(words[2])
