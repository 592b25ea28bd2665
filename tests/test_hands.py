import copy
import itertools
import unittest
from reprlib import repr as short

from pairskept.designs import all_designs
from pairskept.errors import BadDesign, BadProgram, BadRow, NotMade
from pairskept.hands import events_behind, has_ended, told_by
from tests.values import odd_values
from tests.walks import ALL, FENCE, PLAIN, SMALL, Hand, all_hands, any_programs, some_designs

HANDS = (events_behind, has_ended, told_by)


class Checks(unittest.TestCase):
    def assert_events(self, design, program, row, expected):
        found = events_behind(design, program, row)
        self.assertIs(type(found), tuple)
        self.assertEqual(found, expected)

    def assert_ended(self, design, program, row, outcome):
        """The run has ended behind the row with an outcome, and nothing can come."""
        self.assert_events(design, program, row, ())
        self.assertIs(has_ended(design, program, row), True)
        self.assertEqual(told_by(design, program, row), outcome)

    def assert_not_ended(self, design, program, row):
        self.assertIs(has_ended(design, program, row), False)
        with self.assertRaises(NotMade):
            told_by(design, program, row)

    def assert_dead_end(self, design, program, row):
        self.assert_events(design, program, row, ())
        self.assert_not_ended(design, program, row)

    def assert_bad_row(self, design, program, row, index):
        for function in HANDS:
            with self.subTest(function=function.__name__, row=short(row)):
                with self.assertRaises(BadRow) as caught:
                    function(design, program, row)
                self.assertIs(type(caught.exception), BadRow)
                found = caught.exception.index
                self.assertEqual((found, type(found)), (index, type(index)))

    def assert_cannot_come(self, design, program, row, event):
        self.assertNotIn(event, events_behind(design, program, row))
        self.assert_bad_row(design, program, row + (event,), len(row))

    def words_of(self, design, program, row):
        """What a run tells: the pair of core 0, and the cells."""
        registers, cells = told_by(design, program, row)
        return registers[0], cells


class Example(Checks):
    def test_example(self):
        program = ((("write", 0, 1), ("read", 0, 1)), (("write", 1, 1), ("read", 0, 0)))
        self.assert_events(("wr",), program, (), ((0, 0), (1, 0)))
        self.assert_events((), program, (), ((0, 0), (0, 1), (1, 0), (1, 1)))
        self.assertIs(has_ended((), program, ()), False)
        row = ((0, 1), (1, 1), (0, 0), (1, 0))
        self.assertEqual(told_by((), program, row), (((0, 0), (0, 0)), (1, 1, 0)))
        with self.assertRaises(NotMade):
            told_by((), program, ())


class Coming(Checks):
    """Which events can come: not done, not behind the end of the core, nothing ahead of it undone."""

    def test_every_event_once(self):
        program = ((("write", 0, 1),), (("write", 1, 1), ("write", 2, 2)), (FENCE,))
        self.assert_events((), program, (), ((0, 0), (1, 0), (1, 1), (2, 0)))
        self.assert_events((), program, ((1, 1),), ((0, 0), (1, 0), (2, 0)))
        self.assert_events((), program, ((1, 1), (2, 0), (0, 0)), ((1, 0),))
        self.assert_bad_row((), program, ((1, 1), (1, 1)), 1)
        self.assert_bad_row((), program, ((1, 1), (0, 0), (1, 1)), 2)

    def test_what_must_be_done_ahead(self):
        program = ((("write", 0, 1), ("read", 0, 1), ("write", 2, 1)),)
        self.assert_events((), program, (), ((0, 0), (0, 1), (0, 2)))
        self.assert_events(("wr",), program, (), ((0, 0), (0, 2)))
        self.assert_events(("wr",), program, ((0, 0),), ((0, 1), (0, 2)))
        self.assert_events(("rw",), program, (), ((0, 0), (0, 1)))
        self.assert_events(("rw",), program, ((0, 1),), ((0, 0), (0, 2)))
        self.assert_events(("rw", "wr"), program, (), ((0, 0),))
        self.assert_events(("ww",), program, ((0, 1),), ((0, 0),))

    def test_all_ahead_of_a_fence_and_it_ahead_of_all(self):
        program = ((("write", 0, 1), ("read", 0, 1), FENCE, ("read", 1, 1), ("write", 2, 1)),)
        self.assert_events((), program, (), ((0, 0), (0, 1)))
        self.assert_events((), program, ((0, 1),), ((0, 0),))
        self.assert_events((), program, ((0, 1), (0, 0)), ((0, 2),))
        self.assert_events((), program, ((0, 1), (0, 0), (0, 2)), ((0, 3), (0, 4)))

    def test_other_cores_keep_no_order(self):
        program = ((FENCE, FENCE), (FENCE, FENCE), (FENCE,))
        self.assert_events(ALL, program, (), ((0, 0), (1, 0), (2, 0)))
        self.assert_events(ALL, program, ((1, 0), (1, 1)), ((0, 0), (2, 0)))

    def test_behind_a_guard_at_which_the_core_has_ended(self):
        program = ((("guard", 0, 1), ("write", 1, 1), ("read", 0, 2)), (("write", 2, 2),))
        self.assert_events((), program, (), ((0, 0), (0, 1), (0, 2), (1, 0)))
        self.assert_events((), program, ((0, 0),), ((1, 0),))
        self.assert_cannot_come((), program, ((0, 0),), (0, 1))
        self.assert_cannot_come((), program, ((0, 0),), (0, 2))
        self.assert_cannot_come((), program, ((0, 0), (1, 0)), (0, 1))
        self.assert_ended((), program, ((0, 0), (1, 0)), (((0, 0), (0, 0)), (0, 0, 2)))

    def test_ahead_of_a_guard_at_which_the_core_has_ended(self):
        program = ((("write", 1, 1), ("guard", 0, 1), ("write", 2, 1)),)
        self.assert_events((), program, ((0, 1),), ((0, 0),))
        self.assert_not_ended((), program, ((0, 1),))
        self.assert_ended((), program, ((0, 1), (0, 0)), (((0, 0),), (0, 1, 0)))

    def test_end_of_one_core_ends_no_other(self):
        guarded = (("guard", 0, 1), ("write", 1, 1))
        self.assert_events((), (guarded, guarded), ((1, 0),), ((0, 0), (0, 1)))

    def test_behind_a_guard_that_went_on(self):
        program = ((("guard", 0, 0), ("write", 1, 1)),)
        self.assert_events(("gw",), program, (), ((0, 0),))
        self.assert_events(("gw",), program, ((0, 0),), ((0, 1),))
        self.assert_events((), program, ((0, 0),), ((0, 1),))
        self.assert_ended((), program, ((0, 0), (0, 1)), (((0, 0),), (0, 1, 0)))

    def test_fence_behind_a_guard(self):
        self.assert_events((), ((("guard", 0, 1), FENCE),), (), ((0, 0),))
        self.assert_ended((), ((("guard", 0, 1), FENCE),), ((0, 0),), (((0, 0),), (0, 0, 0)))


class Guards(Checks):
    """What a guard looks at, and when it cannot come."""

    def test_read_ahead_of_it(self):
        program = ((("read", 0, 0), ("guard", 0, 1), ("write", 1, 1)), (("write", 0, 1),))
        self.assert_cannot_come((), program, (), (0, 1))
        self.assert_events(("gw",), program, ((0, 0),), ((0, 1), (1, 0)))
        self.assert_events(("gw",), program, ((0, 0), (0, 1)), ((1, 0),))
        self.assert_events(("gw",), program, ((1, 0), (0, 0), (0, 1)), ((0, 2),))

    def test_last_read_by_its_place(self):
        program = ((("read", 0, 0), ("read", 0, 1), ("guard", 0, 2), ("write", 2, 1)), (("write", 1, 2),))
        self.assert_events((), program, ((1, 0), (0, 1), (0, 0), (0, 2)), ((0, 3),))
        self.assert_ended((), program, ((1, 0), (0, 1), (0, 2), (0, 3), (0, 0)), (((2, 0), (0, 0)), (0, 2, 1)))
        self.assert_events((), program, ((0, 1), (0, 2)), ((0, 0), (1, 0)))

    def test_read_into_the_other_one_counts_not(self):
        program = ((("read", 1, 0), ("guard", 0, 1), FENCE), (("write", 0, 1),))
        self.assert_ended((), program, ((1, 0), (0, 0), (0, 1)), (((0, 1), (0, 0)), (1, 0, 0)))

    def test_read_behind_it_counts_not(self):
        program = ((("guard", 0, 1), ("read", 0, 0)), (("write", 0, 1),))
        self.assert_dead_end((), program, ((1, 0), (0, 1)))
        program = ((("guard", 0, 0), ("read", 0, 0)), (("write", 0, 1),))
        self.assert_ended((), program, ((1, 0), (0, 1), (0, 0)), (((1, 0), (0, 0)), (1, 0, 0)))

    def test_every_word(self):
        for word, least in itertools.product(range(10), repeat=2):
            program = ((("read", 1, 2), ("guard", 1, least), ("write", 0, 1)), (("write", 2, word),))
            row = ((1, 0), (0, 0), (0, 1))
            self.assert_events((), program, row, ((0, 2),) if word == least else ())
            self.assertIs(has_ended((), program, row), word != least)

    def test_something_behind_it_is_done(self):
        program = ((("guard", 0, 1), ("write", 1, 1), ("write", 2, 1)),)
        self.assert_events((), program, ((0, 1),), ((0, 2),))
        self.assert_events((), program, ((0, 2),), ((0, 1),))
        self.assert_cannot_come((), program, ((0, 2),), (0, 0))
        self.assert_dead_end((), program, ((0, 1), (0, 2)))
        self.assert_dead_end((), program, ((0, 2), (0, 1)))

    def test_something_ahead_of_it_or_elsewhere_is_done(self):
        program = ((("write", 1, 1), ("guard", 0, 1), ("write", 2, 1)), (("write", 0, 5), ("write", 1, 5)))
        self.assert_events((), program, ((0, 0), (1, 0), (1, 1)), ((0, 1), (0, 2)))

    def test_it_goes_on_with_something_behind_it_done(self):
        program = ((("guard", 0, 0), ("write", 1, 1)),)
        self.assert_events((), program, ((0, 1),), ((0, 0),))
        self.assert_ended((), program, ((0, 1), (0, 0)), (((0, 0),), (0, 1, 0)))

    def test_second_guard(self):
        program = ((("guard", 0, 0), ("guard", 0, 1), ("write", 1, 1)),)
        self.assert_events((), program, (), ((0, 0), (0, 2)))
        self.assert_events((), program, ((0, 2),), ((0, 0),))
        self.assert_dead_end((), program, ((0, 2), (0, 0)))
        self.assert_ended((), program, ((0, 0), (0, 1)), (((0, 0),), (0, 0, 0)))

    def test_dead_end_of_one_core(self):
        program = ((("guard", 0, 1), ("write", 1, 1)), (("write", 0, 1), ("write", 2, 1)))
        self.assert_events((), program, ((0, 1), (1, 0)), ((1, 1),))
        self.assert_not_ended((), program, ((0, 1), (1, 0)))
        self.assert_dead_end((), program, ((0, 1), (1, 0), (1, 1)))

    def test_dead_end_by_the_word_that_a_read_took(self):
        program = ((("read", 0, 0), ("guard", 0, 1), ("write", 1, 1)), (("write", 0, 1),))
        self.assert_dead_end((), program, ((0, 2), (0, 0), (1, 0)))
        self.assert_ended((), program, ((0, 2), (1, 0), (0, 0), (0, 1)), (((1, 0), (0, 0)), (1, 1, 0)))


class Reading(Checks):
    """The word that a reading takes."""

    def test_word_of_the_cell_at_the_time(self):
        program = ((("read", 0, 2), ("read", 1, 2)), (("write", 2, 7), ("write", 2, 8), ("write", 1, 9)))
        row = ((0, 0), (1, 0), (0, 1), (1, 1), (1, 2))
        self.assertEqual(self.words_of((), program, row), ((0, 7), (0, 9, 8)))
        row = ((1, 0), (0, 0), (1, 1), (1, 2), (0, 1))
        self.assertEqual(self.words_of((), program, row), ((7, 8), (0, 9, 8)))

    def test_each_cell_by_itself(self):
        program = ((("read", 0, 0), ("read", 1, 1)), (("write", 0, 3), ("write", 1, 4), ("write", 2, 5)))
        row = ((1, 0), (1, 1), (1, 2), (0, 0), (0, 1))
        self.assertEqual(told_by((), program, row), (((3, 4), (0, 0)), (3, 4, 5)))

    def test_own_writing_that_is_not_done(self):
        program = ((("write", 0, 3), ("read", 0, 0)), (("write", 0, 5),))
        self.assert_cannot_come((), program, (), (0, 1))
        self.assert_events(("own",), program, (), ((0, 0), (0, 1), (1, 0)))
        self.assertEqual(self.words_of(("own",), program, ((0, 1), (0, 0), (1, 0))), ((3, 0), (5, 0, 0)))
        self.assertEqual(self.words_of(("own",), program, ((1, 0), (0, 1), (0, 0))), ((3, 0), (3, 0, 0)))

    def test_own_writing_that_is_done(self):
        program = ((("write", 0, 3), ("read", 0, 0)), (("write", 0, 5),))
        for design in ((), ("own",)):
            self.assertEqual(self.words_of(design, program, ((0, 0), (1, 0), (0, 1))), ((5, 0), (5, 0, 0)))
            self.assertEqual(self.words_of(design, program, ((0, 0), (0, 1), (1, 0))), ((3, 0), (5, 0, 0)))
            self.assertEqual(self.words_of(design, program, ((1, 0), (0, 0), (0, 1))), ((3, 0), (3, 0, 0)))

    def test_last_one_of_own_writings(self):
        program = ((("write", 0, 3), ("write", 0, 4), ("read", 0, 0)),)
        for row in (((0, 2), (0, 0), (0, 1)), ((0, 0), (0, 2), (0, 1)), ((0, 0), (0, 1), (0, 2))):
            self.assertEqual(self.words_of(("own",), program, row), ((4, 0), (4, 0, 0)))

    def test_own_writings_behind_it_or_of_other_cells(self):
        program = ((("write", 0, 3), ("write", 1, 6), ("read", 0, 0), ("write", 0, 4)),)
        self.assertEqual(self.words_of(("own",), program, ((0, 2), (0, 0), (0, 1), (0, 3))), ((3, 0), (4, 6, 0)))
        program = ((("write", 1, 6), ("read", 0, 0), ("write", 0, 4)),)
        self.assertEqual(self.words_of(("own",), program, ((0, 1), (0, 2), (0, 0))), ((0, 0), (4, 6, 0)))

    def test_writing_of_another_core_is_not_own(self):
        program = ((("read", 0, 0),), (("write", 0, 3),))
        self.assertEqual(self.words_of(("own",), program, ((0, 0), (1, 0))), ((0, 0), (3, 0, 0)))
        program = ((("write", 0, 3),), (("read", 0, 0),))
        self.assertEqual(told_by(("own",), program, ((1, 0), (0, 0)))[0], ((0, 0), (0, 0)))

    def test_own_copy_that_is_not_done(self):
        program = ((("read", 0, 1), ("copy", 0, 0), ("read", 1, 0)), (("write", 1, 5), ("write", 0, 8)))
        self.assert_cannot_come(("own",), program, ((1, 0), (1, 1)), (0, 2))
        row = ((1, 0), (0, 0), (1, 1), (0, 2), (0, 1))
        self.assertEqual(self.words_of(("own",), program, row), ((5, 5), (5, 5, 0)))
        row = ((0, 0), (1, 0), (1, 1), (0, 2), (0, 1))
        self.assertEqual(self.words_of(("own",), program, row), ((0, 0), (0, 5, 0)))
        row = ((1, 0), (0, 0), (0, 1), (1, 1), (0, 2))
        self.assertEqual(self.words_of(("own",), program, row), ((5, 8), (8, 5, 0)))

    def test_own_copy_of_nothing_that_is_not_done(self):
        program = ((("copy", 0, 0), ("read", 1, 0)), (("write", 0, 8),))
        self.assertEqual(self.words_of(("own",), program, ((1, 0), (0, 1), (0, 0))), ((0, 0), (0, 0, 0)))
        program = ((("read", 1, 1), ("copy", 0, 0), ("read", 1, 0)), (("write", 1, 8),))
        self.assertEqual(self.words_of(("own",), program, ((1, 0), (0, 0), (0, 2), (0, 1))), ((0, 0), (0, 8, 0)))

    def test_own_copy_takes_its_word_by_place(self):
        program = ((("read", 0, 1), ("copy", 0, 0), ("read", 0, 2), ("read", 1, 0)), (("write", 1, 5), ("write", 2, 6)))
        row = ((1, 0), (1, 1), (0, 0), (0, 2), (0, 3), (0, 1))
        self.assertEqual(self.words_of(("own",), program, row), ((6, 5), (5, 5, 6)))
        row = ((1, 0), (1, 1), (0, 2), (0, 0), (0, 3), (0, 1))
        self.assertEqual(self.words_of(("own",), program, row), ((6, 5), (5, 5, 6)))

    def test_own_copies_of_copies(self):
        program = (
            (("read", 0, 0), ("copy", 1, 0), ("read", 1, 1), ("copy", 2, 1), ("read", 0, 2)), (("write", 0, 7),),
        )
        self.assert_events(("own",), program, (), ((0, 0), (1, 0)))
        self.assert_events(("own",), program, ((1, 0), (0, 0)), ((0, 1), (0, 2)))
        row = ((1, 0), (0, 0), (0, 2), (0, 4), (0, 3), (0, 1))
        self.assertEqual(self.words_of(("own",), program, row), ((7, 7), (7, 7, 7)))


class Copying(Checks):
    """The word that a copy writes, and that each read keeps its own word."""

    def test_word_of_the_last_read(self):
        program = ((("read", 0, 0), ("copy", 1, 0)), (("write", 0, 6), ("write", 0, 7)))
        self.assertEqual(self.words_of((), program, ((1, 0), (0, 0), (1, 1), (0, 1))), ((6, 0), (7, 6, 0)))

    def test_by_place_and_not_by_time(self):
        program = ((("read", 0, 0), ("read", 0, 1), ("copy", 2, 0)), (("write", 0, 1), ("write", 1, 2)))
        row = ((1, 0), (1, 1), (0, 1), (0, 0), (0, 2))
        self.assertEqual(self.words_of((), program, row), ((2, 0), (1, 2, 2)))
        program = ((("read", 0, 0), ("copy", 2, 0), ("read", 0, 1)), (("write", 0, 1), ("write", 1, 2)))
        for row in (((1, 0), (1, 1), (0, 2), (0, 0), (0, 1)), ((1, 0), (1, 1), (0, 0), (0, 2), (0, 1))):
            self.assertEqual(self.words_of((), program, row), ((2, 0), (1, 2, 1)))

    def test_waits_for_its_read_alone(self):
        program = ((("read", 0, 0), ("read", 0, 1), ("copy", 2, 0)), (("write", 1, 4),))
        self.assertEqual(self.words_of((), program, ((1, 0), (0, 1), (0, 2), (0, 0))), ((4, 0), (0, 4, 4)))

    def test_nothing_to_copy(self):
        program = ((("copy", 0, 0), ("copy", 1, 1)), (("write", 0, 6), ("write", 1, 7)))
        row = ((1, 0), (1, 1), (0, 1), (0, 0))
        self.assertEqual(told_by((), program, row), (((0, 0), (0, 0)), (0, 0, 0)))

    def test_of_the_right_one(self):
        program = ((("read", 0, 0), ("read", 1, 1), ("copy", 2, 1)), (("write", 0, 6), ("write", 1, 7)))
        row = ((1, 0), (1, 1), (0, 0), (0, 1), (0, 2))
        self.assertEqual(self.words_of((), program, row), ((6, 7), (6, 7, 7)))

    def test_each_core_has_its_own_two(self):
        program = ((("read", 0, 0),), (("copy", 1, 0),), (("write", 0, 6),))
        row = ((2, 0), (0, 0), (1, 0))
        self.assertEqual(told_by((), program, row), (((6, 0), (0, 0), (0, 0)), (6, 0, 0)))


class Telling(Checks):
    """When a run has ended, and what it tells."""

    def test_nothing_to_do(self):
        for many in (1, 2, 3):
            program = ((),) * many
            self.assert_ended((), program, (), (((0, 0),) * many, (0, 0, 0)))

    def test_all_cores(self):
        program = ((FENCE,), (), (FENCE, FENCE))
        row = ((2, 0), (0, 0), (2, 1))
        for many in range(3):
            self.assert_not_ended((), program, row[:many])
        self.assert_ended((), program, row, (((0, 0), (0, 0), (0, 0)), (0, 0, 0)))

    def test_last_read_by_its_place(self):
        program = ((("read", 1, 0), ("read", 1, 1), ("read", 0, 1)), (("write", 0, 1), ("write", 1, 2)))
        row = ((1, 0), (0, 2), (1, 1), (0, 1), (0, 0))
        self.assert_ended((), program, row, (((0, 2), (0, 0)), (1, 2, 0)))

    def test_last_read_of_those_done(self):
        core = (("read", 0, 0), ("read", 1, 0), ("guard", 0, 1), ("read", 0, 1), ("read", 1, 1))
        program = (core, (("write", 0, 2), ("write", 1, 3)))
        row = ((1, 0), (1, 1), (0, 1), (0, 0), (0, 2))
        self.assert_ended((), program, row, (((2, 2), (0, 0)), (2, 3, 0)))
        program = (core, (("write", 0, 1), ("write", 1, 3)))
        row = ((1, 0), (1, 1), (0, 1), (0, 0), (0, 2), (0, 4), (0, 3))
        self.assert_ended((), program, row, (((3, 3), (0, 0)), (1, 3, 0)))

    def test_all_up_to_the_guard(self):
        program = ((("read", 0, 0), ("write", 1, 1), ("guard", 1, 1), ("write", 2, 1)), (FENCE,))
        self.assert_not_ended((), program, ((0, 2), (1, 0)))
        self.assert_not_ended((), program, ((0, 2), (1, 0), (0, 0)))
        self.assert_not_ended((), program, ((0, 2), (0, 1), (0, 0)))
        self.assert_ended((), program, ((0, 2), (1, 0), (0, 1), (0, 0)), (((0, 0), (0, 0)), (0, 1, 0)))

    def test_last_instruction_is_a_guard(self):
        for least in (0, 1):
            program = ((("write", 1, 1), ("guard", 1, least)),)
            self.assert_not_ended((), program, ((0, 0),))
            self.assert_ended((), program, ((0, 1), (0, 0)), (((0, 0),), (0, 1, 0)))


class Rows(Checks):
    FIVE = (FENCE,) * 5
    TEN = tuple((core, place) for place in range(5) for core in (0, 1))

    def test_no_events(self):
        self.assert_events((), (self.FIVE, self.FIVE), (), ((0, 0), (1, 0)))

    def test_ten_events(self):
        self.assert_events((), (self.FIVE, self.FIVE), self.TEN[:9], ((1, 4),))
        self.assert_not_ended((), (self.FIVE, self.FIVE), self.TEN[:9])
        self.assert_ended((), (self.FIVE, self.FIVE), self.TEN, (((0, 0), (0, 0)), (0, 0, 0)))
        program = (self.FIVE[:4], self.FIVE[:3], self.FIVE[:3])
        row = tuple((core, place) for core in (2, 0, 1) for place in range(len(program[core])))
        self.assert_ended((), program, row, (((0, 0), (0, 0), (0, 0)), (0, 0, 0)))

    def test_ten_events_with_a_wrong_one(self):
        self.assert_bad_row((), (self.FIVE, self.FIVE), self.TEN[:9] + ((0, 4),), 9)
        self.assert_bad_row((), (self.FIVE,), self.TEN, 1)

    def test_eleven_events(self):
        self.assert_bad_row((), (self.FIVE, self.FIVE), self.TEN + ((0, 0),), None)
        self.assert_bad_row((), (self.FIVE, self.FIVE), ("x",) * 11, None)
        self.assert_bad_row((), (self.FIVE,), ((0, 0),) * 11, None)

    def test_no_tuple(self):
        for row in ([], [(0, 0)], {}, {(0, 0): 1}, "", "0", "do 0 0", None, 0, 1, True, False, BadRow(0)):
            self.assert_bad_row((), (self.FIVE,), row, None)

    def test_odd_values(self):
        for value in odd_values():
            no_row = not isinstance(value, tuple) or len(value) > 10
            self.assert_bad_row((), (self.FIVE,), value, None if no_row else 0)
            self.assert_bad_row((), (self.FIVE,), ((0, 0), value), 1)
            self.assert_bad_row((), (self.FIVE,), ((0, 0), (0, value)), 1)
            self.assert_bad_row((), (self.FIVE,), ((0, 0), (value, 1)), 1)

    def test_wrong_items(self):
        program = ((("write", 0, 1), ("write", 1, 1)), (("write", 2, 1), ("read", 0, 0)))
        wrong = [
            [0, 0], "00", "0 0", None, 0, True, (), (0,), (0, 0, 0), ((0, 0),), (0, "0"), ("0", 0), (None, 0),
            (0, None),
            (True, 0), (0, True), (False, 0), (0, False), (1, True), (True, True), (-1, 0), (0, -1), (-2, -2), (2, 0),
            (0, 2), (1, 2), (3, 0), (0, 5), (9, 9), (0, 10 ** 30), ([0], 0), ((0,), (0,)), {0: 0}, {}, BadRow(0),
        ]
        for item in wrong:
            self.assert_bad_row((), program, (item,), 0)
            self.assert_bad_row((), program, ((1, 1), item), 1)
            self.assert_bad_row((), program, ((1, 1), (1, 0), item), 2)

    def test_every_pair_of_numbers(self):
        program = ((FENCE,), (), (("read", 0, 0), ("read", 0, 1), ("read", 0, 2)))
        good = []
        for event in itertools.product(range(-4, 12), repeat=2):
            try:
                events_behind((), program, (event,))
                good.append(event)
            except BadRow as error:
                self.assertEqual(error.index, 0)
        self.assertEqual(good, [(0, 0), (2, 0), (2, 1), (2, 2)])

    def test_first_wrong_item(self):
        program = ((("write", 0, 1), ("write", 1, 1)),)
        self.assert_bad_row((), program, ((0, 1), (0, 1), None), 1)
        self.assert_bad_row((), program, ((0, 1), None, (0, 1)), 1)
        self.assert_bad_row(("ww",), program, ((0, 1), None), 0)
        self.assert_bad_row(("ww",), program, ((0, 0), (0, 1), (0, 0), [1]), 2)

    def test_no_event_behind_the_end(self):
        self.assert_bad_row((), ((),), ((0, 0),), 0)
        self.assert_bad_row((), ((FENCE,),), ((0, 0), (0, 1)), 1)


class SecondTelling(Checks):
    """All rows of small programs, against the walk of tests.walks."""

    def assert_same(self, design, program):
        for row, hand in all_hands(design, program):
            self.assertEqual(events_behind(design, program, row), hand.events(), (design, program, row))
            self.assertIs(has_ended(design, program, row), hand.has_ended(), (design, program, row))
            if hand.has_ended():
                self.assertEqual(told_by(design, program, row), hand.told(), (design, program, row))
            else:
                with self.assertRaises(NotMade):
                    told_by(design, program, row)

    def test_small_programs(self):
        for program in SMALL:
            if sum(map(len, program)) <= 5:
                for design in some_designs(1, 3):
                    self.assert_same(design, program)

    def test_programs_by_chance(self):
        for program in any_programs(2, 60, [(4,), (3, 1), (2, 2), (2, 1, 1)]):
            for design in some_designs(len(program), 2):
                self.assert_same(design, program)

    def test_first_events_on_all_designs(self):
        for program in SMALL:
            for design in all_designs():
                self.assertEqual(events_behind(design, program, ()), Hand(design, program).events())


class WrongArguments(Checks):
    PROGRAM = ((("write", 0, 1), ("read", 0, 1)), (("write", 1, 1), ("read", 0, 0)))

    def assert_raises(self, error, *arguments, **fields):
        for function in HANDS:
            with self.subTest(function=function.__name__, arguments=short(arguments)):
                with self.assertRaises(error) as caught:
                    function(*arguments)
                self.assertIs(type(caught.exception), error)
                self.assertEqual(vars(caught.exception), fields)

    def test_bad_design(self):
        for design in odd_values() + [("rw", "rr"), ("rr", "rr"), ("rx",), ["rr"], "rr", ("rr", None), ("rr", 1)]:
            self.assert_raises(BadDesign, design, self.PROGRAM, ())

    def test_bad_program(self):
        for program in ((), ((),) * 4, [()], None, "fence", 1, True, {}):
            self.assert_raises(BadProgram, (), program, (), core=None)
        self.assert_raises(BadProgram, (), (None,), (), core=0)
        self.assert_raises(BadProgram, (), ((), [FENCE]), (), core=1)
        self.assert_raises(BadProgram, (), ((), (("read", 0, 3),)), (), core=1)
        self.assert_raises(BadProgram, (), ((FENCE,) * 6,), (), core=0)
        self.assert_raises(BadProgram, (), ((FENCE,) * 5, (FENCE,) * 5, (FENCE,)), (), core=2)
        for value in odd_values():
            self.assert_raises(BadProgram, (), (self.PROGRAM[0], (), value), (), core=2)

    def test_first_argument_first(self):
        self.assert_raises(BadDesign, None, None, None)
        self.assert_raises(BadDesign, ["rr"], self.PROGRAM, [])
        self.assert_raises(BadDesign, ("rr", "rr"), ((), None), ())
        self.assert_raises(BadProgram, (), None, None, core=None)
        self.assert_raises(BadProgram, (), ((), None), ((0, 0),) * 11, core=1)
        self.assert_raises(BadProgram, (), ((FENCE,) * 5,) * 3, ((9, 9),), core=2)
        self.assert_raises(BadRow, (), self.PROGRAM, None, index=None)
        self.assert_raises(BadRow, (), self.PROGRAM, ((0, 1), (9, 9)), index=1)

    def test_not_made_last(self):
        for arguments in ((None, self.PROGRAM, ()), ((), ((), None), ()), ((), self.PROGRAM, [])):
            with self.assertRaises((BadDesign, BadProgram, BadRow)):
                told_by(*arguments)
        with self.assertRaises(NotMade):
            told_by(PLAIN, self.PROGRAM, ((0, 0),))

    def test_arguments_are_kept(self):
        lists = [["rr"], [[["read", 0, 0]]], [[0, 0]]]
        for arguments in (lists, [(), lists[1], lists[2]], [(), self.PROGRAM, lists[2]], [(), self.PROGRAM, ([0], {})]):
            before = copy.deepcopy(arguments)
            for function in HANDS:
                with self.assertRaises((BadDesign, BadProgram, BadRow)):
                    function(*arguments)
            self.assertEqual(arguments, before)


if __name__ == "__main__":
    unittest.main()
