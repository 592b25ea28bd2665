import copy
import itertools
import math
import unittest
from reprlib import repr as short

from pairskept.designs import all_designs
from pairskept.errors import BadDesign, BadProgram, NotMade
from pairskept.hands import told_by
from pairskept.outcomes import count_rows, outcomes, plain_outcomes, row_for
from tests.values import odd_values
from tests.walks import ALL, FENCE, PLAIN, SMALL, all_hands, any_programs, in_order, some_designs

CROSSED = ((("write", 0, 1), ("read", 0, 1)), (("write", 1, 1), ("read", 0, 0)))
NOTHING = ((0, 0), (0, 0))


def walk(design, program):
    """All rows behind which the run has ended, ascending, each one with its outcome."""
    return [(row, hand.told()) for row, hand in all_hands(design, program) if hand.has_ended()]


class Checks(unittest.TestCase):
    def assert_walked(self, design, program):
        """The four functions tell what a walk over all rows tells."""
        with self.subTest(design=design, program=program):
            found = walk(design, program)
            least = {}
            for row, outcome in found:
                least.setdefault(outcome, row)
            self.assertEqual(outcomes(design, program), tuple(sorted(least)))
            self.assertEqual(count_rows(design, program), len(found))
            for outcome, row in least.items():
                self.assertEqual(row, min(one for one, other in found if other == outcome))
                self.assertEqual(row_for(design, program, outcome), row)
            plain = {outcome for row, outcome in found if in_order(row)}
            self.assertEqual(plain_outcomes(program), tuple(sorted(plain)))

    def assert_told(self, design, program, expected):
        """Of each outcome its least row, and of all the number of their rows."""
        rows, many = expected
        self.assertEqual(outcomes(design, program), tuple(sorted(rows)))
        for outcome, row in rows.items():
            self.assertEqual(row_for(design, program, outcome), row)
        self.assertEqual(count_rows(design, program), many)


class Example(Checks):
    def test_example(self):
        found = [len(outcomes(("wr",), CROSSED)), len(outcomes((), CROSSED))]
        found += [row_for((), CROSSED, (NOTHING, (1, 1, 0))), count_rows((), CROSSED), len(plain_outcomes(CROSSED))]
        self.assertEqual(found, [3, 4, ((0, 1), (1, 0), (1, 1), (0, 0)), 24, 3])
        with self.assertRaises(NotMade):
            row_for((), CROSSED, None)


class ByHand(Checks):
    def test_empty_cores(self):
        for many in (1, 2, 3):
            for design in some_designs(many, 5):
                program = ((),) * many
                self.assert_told(design, program, ({(((0, 0),) * many, (0, 0, 0)): ()}, 1))
                self.assertEqual(plain_outcomes(program), ((((0, 0),) * many, (0, 0, 0)),))

    def test_one_core(self):
        program = ((("write", 0, 3), ("read", 1, 0), ("copy", 2, 1)),)
        row = ((0, 0), (0, 1), (0, 2))
        for design in ((), PLAIN):
            self.assert_told(design, program, ({(((0, 3),), (3, 0, 3)): row}, 1))
        self.assert_told(("own",), program, ({(((0, 3),), (3, 0, 3)): row}, 3))
        self.assert_told(("own", "ww"), program, ({(((0, 3),), (3, 0, 3)): row}, 2))
        self.assertEqual(plain_outcomes(program), ((((0, 3),), (3, 0, 3)),))

    def test_crossed(self):
        expected = {
            (NOTHING, (1, 1, 0)): ((0, 1), (1, 0), (1, 1), (0, 0)),
            (((0, 0), (1, 0)), (1, 1, 0)): ((0, 0), (0, 1), (1, 0), (1, 1)),
            (((1, 0), (0, 0)), (1, 1, 0)): ((1, 0), (0, 1), (1, 1), (0, 0)),
            (((1, 0), (1, 0)), (1, 1, 0)): ((0, 0), (1, 0), (0, 1), (1, 1)),
        }
        self.assert_told((), CROSSED, (expected, 24))
        del expected[NOTHING, (1, 1, 0)]
        expected[((1, 0), (0, 0)), (1, 1, 0)] = ((1, 0), (1, 1), (0, 0), (0, 1))
        self.assert_told(("wr",), CROSSED, (expected, 6))
        self.assertEqual(plain_outcomes(CROSSED), tuple(sorted(expected)))

    def test_three_cores(self):
        program = ((("write", 0, 1),), (("write", 0, 2),), (("read", 0, 0),))
        pairs = ((0, 0), (0, 0))
        expected = {
            ((*pairs, (0, 0)), (1, 0, 0)): ((2, 0), (1, 0), (0, 0)),
            ((*pairs, (0, 0)), (2, 0, 0)): ((2, 0), (0, 0), (1, 0)),
            ((*pairs, (1, 0)), (1, 0, 0)): ((1, 0), (0, 0), (2, 0)),
            ((*pairs, (1, 0)), (2, 0, 0)): ((0, 0), (2, 0), (1, 0)),
            ((*pairs, (2, 0)), (1, 0, 0)): ((1, 0), (2, 0), (0, 0)),
            ((*pairs, (2, 0)), (2, 0, 0)): ((0, 0), (1, 0), (2, 0)),
        }
        self.assert_told((), program, (expected, 6))
        self.assertEqual(plain_outcomes(program), tuple(sorted(expected)))

    def test_dead_ends_count_not(self):
        program = ((("guard", 0, 1), ("write", 1, 1)),)
        self.assert_told((), program, ({(((0, 0),), (0, 0, 0)): ((0, 0),)}, 1))
        program = ((("read", 0, 0), ("guard", 0, 1), ("write", 1, 1)), (("write", 0, 1),))
        expected = {
            (NOTHING, (1, 0, 0)): ((0, 0), (0, 1), (1, 0)),
            (((1, 0), (0, 0)), (1, 1, 0)): ((0, 2), (1, 0), (0, 0), (0, 1)),
        }
        self.assert_told((), program, (expected, 6))
        expected[((1, 0), (0, 0)), (1, 1, 0)] = ((1, 0), (0, 0), (0, 1), (0, 2))
        self.assert_told(("gw",), program, (expected, 3))
        self.assertEqual(plain_outcomes(program), tuple(sorted(expected)))

    def test_one_outcome_by_rows_of_unlike_lengths(self):
        core = (("read", 0, 0), ("guard", 0, 1), ("read", 0, 1))
        shorter = {(NOTHING, (1, 0, 0)): ((0, 0), (0, 1), (1, 0))}
        self.assert_told(PLAIN, (core, (("write", 0, 1),)), (shorter, 3))
        longer = {(NOTHING, (1, 0, 0)): ((0, 0), (1, 0), (1, 1), (1, 2))}
        self.assert_told(PLAIN, ((("write", 0, 1),), core), (longer, 3))

    def test_a_core_that_ends_beside_one_that_ends_elsewhere(self):
        program = ((("guard", 0, 0), FENCE), (("write", 0, 1), ("guard", 0, 1), FENCE))
        self.assert_told(ALL, program, ({(NOTHING, (1, 0, 0)): ((0, 0), (0, 1), (1, 0), (1, 1))}, 12))
        self.assert_told((), program, ({(NOTHING, (1, 0, 0)): ((0, 0), (0, 1), (1, 0), (1, 1))}, 12))

    def test_ten_instructions(self):
        program = ((FENCE,) * 5, (FENCE,) * 5)
        row = tuple((core, place) for core in (0, 1) for place in range(5))
        for design in ((), ALL):
            self.assert_told(design, program, ({(NOTHING, (0, 0, 0)): row}, math.comb(10, 5)))
        program = ((FENCE,) * 4, (FENCE,) * 3, (FENCE,) * 3)
        self.assertEqual(count_rows((), program), math.factorial(10) // (24 * 6 * 6))

    def test_millions_of_rows(self):
        program = (tuple(("read", 0, at % 3) for at in range(5)), tuple(("read", 1, at % 3) for at in range(5)))
        row = tuple((core, place) for core in (0, 1) for place in range(5))
        self.assert_told((), program, ({(NOTHING, (0, 0, 0)): row}, math.factorial(10)))
        program = ((("read", 0, 0),) * 5, tuple(("write", 0, word) for word in range(1, 6)))
        self.assertEqual(count_rows((), program), math.factorial(10) // math.factorial(5))
        self.assertEqual(count_rows(("ss",), program), math.comb(10, 5))
        told = tuple((((word, 0), (0, 0)), (5, 0, 0)) for word in range(6))
        self.assertEqual(outcomes((), program), told)
        self.assertEqual(plain_outcomes(program), told)

    def test_words_up_to_nine(self):
        program = ((("write", 2, 9),), (("read", 1, 2), ("copy", 0, 1)))
        self.assertEqual(outcomes((), program), ((NOTHING, (0, 0, 9)), (((0, 0), (0, 9)), (9, 0, 9))))
        self.assertEqual(row_for((), program, (((0, 0), (0, 9)), (9, 0, 9))), ((0, 0), (1, 0), (1, 1)))


class SecondTelling(Checks):
    """Small programs against a walk over all rows."""

    def test_small_programs_on_some_designs(self):
        for at, program in enumerate(SMALL):
            for design in some_designs(at, 4):
                self.assert_walked(design, program)

    def test_tiny_programs_on_all_designs(self):
        for program in SMALL:
            if sum(map(len, program)) <= 3:
                for design in all_designs():
                    self.assert_walked(design, program)

    def test_programs_by_chance(self):
        for at, program in enumerate(any_programs(3, 60, [(5,), (3, 2), (4, 1), (2, 2, 1), (1, 1, 3)])):
            for design in some_designs(at, 1):
                self.assert_walked(design, program)

    def test_greater_programs_by_chance(self):
        for at, program in enumerate(any_programs(4, 12, [(5, 1), (3, 3), (4, 2), (2, 2, 2)])):
            self.assert_walked(some_designs(at, 1)[-1], program)


class Plain(Checks):
    def test_on_all_words_but_own(self):
        programs = SMALL + any_programs(5, 150, [(5, 3), (4, 4), (3, 3, 2), (2, 2, 2), (5, 1), (4, 3, 3)])
        for program in programs:
            self.assertEqual(plain_outcomes(program), outcomes(PLAIN, program), program)

    def test_plain_on_every_design(self):
        for program in SMALL:
            plain = set(plain_outcomes(program))
            for design in all_designs():
                self.assertLessEqual(plain, set(outcomes(design, program)), (design, program))

    def test_bad_program(self):
        for program, core in (((), None), (None, None), ([()], None), ((None,), 0), (((), (FENCE,) * 6), 1)):
            with self.assertRaises(BadProgram) as caught:
                plain_outcomes(program)
            self.assertEqual(caught.exception.core, core)
        for value in odd_values():
            with self.assertRaises(BadProgram) as caught:
                plain_outcomes(((), value))
            self.assertEqual(caught.exception.core, 1)


class Ordered(Checks):
    def test_ascending_and_unlike(self):
        for at, program in enumerate(SMALL + any_programs(6, 40, [(4, 4), (3, 3, 3)])):
            for design in some_designs(at, 2):
                found = outcomes(design, program)
                self.assertIs(type(found), tuple)
                self.assertEqual(list(found), sorted(set(found)))
                self.assertIs(type(plain_outcomes(program)), tuple)

    def test_rows_lead_there(self):
        for at, program in enumerate(any_programs(7, 20, [(5, 5), (4, 4, 2)])):
            design = some_designs(at, 1)[-1]
            for outcome in outcomes(design, program):
                self.assertEqual(told_by(design, program, row_for(design, program, outcome)), outcome)


class NoOutcomes(Checks):
    """Values that are no outcome of the program on the design."""

    def assert_not_made(self, value, design=(), program=CROSSED):
        with self.subTest(value=short(value)), self.assertRaises(NotMade):
            row_for(design, program, value)

    def test_odd_values(self):
        for value in odd_values():
            self.assert_not_made(value)
            self.assert_not_made((NOTHING, value))
            self.assert_not_made((value, (1, 1, 0)))
            self.assert_not_made((((0, 0), value), (1, 1, 0)))
            self.assert_not_made((((0, 0), (value, 0)), (1, 1, 0)))
            self.assert_not_made((NOTHING, (1, 1, value)))

    def test_lists_in_the_place_of_tuples(self):
        self.assertEqual(len(row_for((), CROSSED, (((0, 0), (1, 0)), (1, 1, 0)))), 4)
        self.assert_not_made([((0, 0), (1, 0)), (1, 1, 0)])
        self.assert_not_made(([(0, 0), (1, 0)], (1, 1, 0)))
        self.assert_not_made((([0, 0], (1, 0)), (1, 1, 0)))
        self.assert_not_made((((0, 0), [1, 0]), (1, 1, 0)))
        self.assert_not_made((((0, 0), (1, 0)), [1, 1, 0]))

    def test_true_and_false_in_the_place_of_numbers(self):
        self.assert_not_made((((0, 0), (True, 0)), (1, 1, 0)))
        self.assert_not_made((((0, False), (1, 0)), (1, 1, 0)))
        self.assert_not_made((((0, 0), (1, 0)), (True, 1, 0)))
        self.assert_not_made((((0, 0), (1, 0)), (1, True, 0)))
        self.assert_not_made((((0, 0), (1, 0)), (1, 1, False)))

    def test_wrong_forms(self):
        for value in ((), (NOTHING,), (NOTHING, (1, 1, 0), ()), (NOTHING, (1, 1)), (NOTHING, (1, 1, 0, 0)),
                      (((0, 0),), (1, 1, 0)), (((0, 0),) * 3, (1, 1, 0)), (((0, 0), (0,)), (1, 1, 0)),
                      (((0, 0), (0, 0, 0)), (1, 1, 0)), ((0, 0), (1, 1, 0)), ((1, 1, 0), NOTHING),
                      (NOTHING, "110"), ("00", (1, 1, 0)), (("00", "00"), (1, 1, 0)), {NOTHING: (1, 1, 0)}):
            self.assert_not_made(value)

    def test_outcomes_that_do_not_come(self):
        self.assert_not_made((NOTHING, (0, 0, 0)))
        self.assert_not_made((((0, 0), (0, 1)), (1, 1, 0)))
        self.assert_not_made((((2, 0), (0, 0)), (1, 1, 0)))
        self.assert_not_made((((10, 0), (0, 0)), (1, 1, 0)))
        self.assert_not_made((((-1, 0), (0, 0)), (1, 1, 0)))

    def test_outcomes_on_another_design(self):
        self.assert_not_made((NOTHING, (1, 1, 0)), ("wr",))
        self.assert_not_made((NOTHING, (1, 1, 0)), PLAIN)

    def test_outcomes_of_another_program(self):
        self.assert_not_made((((0, 0),), (0, 0, 0)))
        self.assert_not_made((NOTHING, (1, 1, 0)), (), ((("write", 0, 1),), (("write", 1, 1),), ()))
        self.assert_not_made((NOTHING, (0, 0, 0)), (), ((),))

    def test_outcomes_of_a_dead_end(self):
        self.assert_not_made((((0, 0),), (0, 1, 0)), (), ((("guard", 0, 1), ("write", 1, 1)),))

    def test_every_outcome_that_could_be(self):
        program = ((("read", 0, 0), ("write", 1, 1)), (("write", 0, 2), ("read", 1, 1)))
        found = outcomes(("rr",), program)
        for one, two, three, cell in itertools.product(range(4), repeat=4):
            outcome = (((one, two), (0, three)), (2, 1, cell))
            if outcome in found:
                self.assertEqual(told_by(("rr",), program, row_for(("rr",), program, outcome)), outcome)
            else:
                self.assert_not_made(outcome, ("rr",), program)


class WrongArguments(Checks):
    def assert_raises(self, error, design, program, **fields):
        for function, more in ((outcomes, []), (count_rows, []), (row_for, [(NOTHING, (1, 1, 0))]), (row_for, [None])):
            with self.subTest(function=function.__name__, design=short(design), program=short(program)):
                with self.assertRaises(error) as caught:
                    function(design, program, *more)
                self.assertIs(type(caught.exception), error)
                self.assertEqual(vars(caught.exception), fields)

    def test_bad_design(self):
        for design in odd_values() + [("rw", "rr"), ("rr", "rr"), ("rx",), ["rr"], "rr", ("rr", None), ("rr", 1)]:
            self.assert_raises(BadDesign, design, CROSSED)

    def test_bad_program(self):
        for program in ((), ((),) * 4, [()], None, "fence", 1, True, {}):
            self.assert_raises(BadProgram, (), program, core=None)
        self.assert_raises(BadProgram, (), (None,), core=0)
        self.assert_raises(BadProgram, (), ((), (["fence"],)), core=1)
        self.assert_raises(BadProgram, (), ((FENCE,) * 5, (FENCE,) * 5, (FENCE,)), core=2)
        for value in odd_values():
            self.assert_raises(BadProgram, (), (CROSSED[0], value, value), core=1)

    def test_first_argument_first(self):
        self.assert_raises(BadDesign, None, None)
        self.assert_raises(BadDesign, ["rr"], ((), None))
        self.assert_raises(BadDesign, ("ww", "rr"), ())
        self.assert_raises(BadProgram, (), ((), None, ("fence",)), core=1)

    def test_arguments_are_kept(self):
        lists = [["rr"], [[["read", 0, 0]]], [[[0, 0]], [0, 0, 0]]]
        for arguments in (lists, [(), lists[1], lists[2]], [(), CROSSED, lists[2]], [(), CROSSED, (([0, 0],), {})]):
            before = copy.deepcopy(arguments)
            with self.assertRaises((BadDesign, BadProgram, NotMade)):
                row_for(*arguments)
            self.assertEqual(arguments, before)


if __name__ == "__main__":
    unittest.main()
