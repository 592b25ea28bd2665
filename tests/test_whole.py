"""What point 1 promises over the whole program."""

import copy
import itertools
import unittest
from reprlib import repr as short

from pairskept import errors
from pairskept.compares import alike, below, first_test, normal, normals, shows, tests
from pairskept.designs import all_designs, is_design, must_be_done
from pairskept.desks import Desk
from pairskept.errors import BadCore, BadDesign, BadName, BadPlace, BadPlaces, BadProgram, BadRow, InvalidText
from pairskept.errors import NotMade, NotText, PairError
from pairskept.fences import fenced, fewest_fences, is_plain, strange
from pairskept.hands import events_behind, has_ended, told_by
from pairskept.outcomes import count_rows, outcomes, plain_outcomes, row_for
from pairskept.programs import is_instruction
from pairskept.texts import read_design, read_program, write_design, write_program
from tests.values import odd_values
from tests.walks import FENCE

CROSSED = ((("write", 0, 1), ("read", 0, 1)), (("write", 1, 1), ("read", 0, 0)))
FIVE = (FENCE,) * 5
ROW = ((0, 1), (1, 1), (0, 0), (1, 0))
TOLD = (((0, 0), (0, 0)), (1, 1, 0))

# For each kind of argument a right value, and wrong ones with the error and the fields that each one leads to.
DESIGN = ((), [(value, BadDesign, {}) for value in (None, ["rr"], "rr", ("ww", "rr"), ("rr", "rr"), (True,))])
PROGRAM = (CROSSED, [
    (None, BadProgram, {"core": None}), (((),) * 4, BadProgram, {"core": None}), ([()], BadProgram, {"core": None}),
    ((None, None), BadProgram, {"core": 0}), ((FIVE, FIVE, FIVE), BadProgram, {"core": 2}),
    (((), (("read", 0, True),), None), BadProgram, {"core": 1}), (((), (FENCE,) * 6), BadProgram, {"core": 1}),
])
CORE = (CROSSED[0], [(value, BadCore, {}) for value in (None, [FENCE], FENCE, (FENCE,) * 6, (("write", 0, False),))])
FIRST = (0, [(value, BadPlace, {}) for value in (None, -1, 1, False, "0", (0,))])
SECOND = (1, [(value, BadPlace, {}) for value in (None, 0, 2, True, "1", (1,))])
EVENTS = (ROW, [
    (None, BadRow, {"index": None}), ([(0, 1)], BadRow, {"index": None}), (ROW * 3, BadRow, {"index": None}),
    (ROW + ROW, BadRow, {"index": 4}), (((0, True),), BadRow, {"index": 0}), (((0, 1), [1, 1]), BadRow, {"index": 1}),
])
NAME = ("rr", [(value, BadName, {}) for value in (None, "own", ("rr",), 0, True, "")])
PLACES = (((0, 1),), [
    (value, BadPlaces, {}) for value in (None, [(0, 1)], ((0, True),), ((0, 0),), ((0, 2),), ((1, 1), (0, 1)))
])
OUTCOME = (TOLD, [(value, NotMade, {}) for value in (None, [], (TOLD[0], (1, True, 0)), (TOLD[0], (0, 0, 0)))])
TEXT = ("-", [
    (None, NotText, {}), (b"-", NotText, {}), ("", InvalidText, {"line": 1}), ("--", InvalidText, {"line": 1}),
])

CALLS = [
    (must_be_done, DESIGN, CORE, FIRST, SECOND), (events_behind, DESIGN, PROGRAM, EVENTS),
    (has_ended, DESIGN, PROGRAM, EVENTS), (told_by, DESIGN, PROGRAM, EVENTS), (outcomes, DESIGN, PROGRAM),
    (plain_outcomes, PROGRAM), (row_for, DESIGN, PROGRAM, OUTCOME), (count_rows, DESIGN, PROGRAM),
    (below, DESIGN, DESIGN), (alike, DESIGN, DESIGN), (first_test, DESIGN, DESIGN), (shows, DESIGN, NAME),
    (normal, DESIGN), (is_plain, DESIGN, PROGRAM), (strange, DESIGN, PROGRAM), (fenced, PROGRAM, PLACES),
    (fewest_fences, DESIGN, PROGRAM), (write_program, PROGRAM), (write_design, DESIGN), (read_program, TEXT),
    (read_design, TEXT), (Desk, DESIGN, PROGRAM), (is_instruction, (FENCE, [])), (is_design, ((), [])),
    (all_designs,), (tests,), (normals,),
]


class Whole(unittest.TestCase):
    def test_right_arguments(self):
        for function, *kinds in CALLS:
            arguments = [right for right, _ in kinds]
            before = copy.deepcopy(arguments)
            function(*arguments)
            self.assertEqual(arguments, before)

    def test_error_of_the_first_wrong_argument(self):
        for function, *kinds in CALLS:
            for arguments in itertools.product(*[[(right, None, None)] + wrong for right, wrong in kinds]):
                values = [value for value, _, _ in arguments]
                expected = [(error, fields) for _, error, fields in arguments if error is not None]
                if expected:
                    with self.subTest(function=function.__name__, values=short(values)):
                        with self.assertRaises(PairError) as caught:
                            function(*values)
                        self.assertEqual((type(caught.exception), vars(caught.exception)), expected[0])

    def test_wrong_arguments_are_kept(self):
        for function, *kinds in CALLS:
            for at, (_, wrong) in enumerate(kinds):
                for value, _, _ in wrong:
                    arguments = [right for right, _ in kinds]
                    arguments[at] = value
                    before = copy.deepcopy(arguments)
                    with self.assertRaises(PairError):
                        function(*arguments)
                    self.assertEqual(arguments, before)

    def test_any_value(self):
        """No argument leads to another error than the package's own ones."""
        for function, *kinds in CALLS:
            for at in range(len(kinds)):
                for value in odd_values():
                    arguments = [right for right, _ in kinds]
                    arguments[at] = value
                    with self.subTest(function=function.__name__, at=at, value=short(value)):
                        try:
                            function(*arguments)
                        except PairError:
                            pass

    def test_not_made_behind_the_errors_of_all_arguments(self):
        full = CROSSED + (FIVE,)
        for function, arguments in ((told_by, ((), CROSSED, ())), (row_for, ((), CROSSED, None)),
                                    (fenced, (full, ((0, 1), (1, 1)))), (fewest_fences, ((), full))):
            with self.assertRaises(NotMade):
                function(*arguments)
            kinds = next(kinds for other, *kinds in CALLS if other is function)
            for at, (_, wrong) in enumerate(kinds):
                for value, error, fields in wrong:
                    if error is not NotMade:
                        with self.assertRaises(error) as caught:
                            function(*arguments[:at], value, *arguments[at + 1:])
                        self.assertEqual(vars(caught.exception), fields)

    def test_the_same_answer_each_time(self):
        for function, *kinds in CALLS:
            if function is not Desk:
                arguments = [right for right, _ in kinds]
                self.assertEqual(function(*arguments), function(*arguments))

    def test_all_errors_are_direct_subclasses(self):
        for name, value in vars(errors).items():
            if isinstance(value, type) and value is not PairError:
                self.assertEqual(value.__bases__, (PairError,), name)


if __name__ == "__main__":
    unittest.main()
