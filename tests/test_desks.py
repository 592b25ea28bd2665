import copy
import itertools
import random
import unittest
from reprlib import repr as short

from pairskept.desks import Desk
from pairskept.errors import BadDesign, BadProgram, InvalidText, NothingToUndo, NotNow, NotText
from pairskept.hands import events_behind, has_ended, told_by
from pairskept.outcomes import outcomes
from tests.values import odd_values
from tests.walks import ALL, FENCE, PLAIN, SMALL, Hand, all_hands, any_programs, some_designs

CROSSED = ((("write", 0, 1), ("read", 0, 1)), (("write", 1, 1), ("read", 0, 0)))
GUARDED = ((("guard", 0, 1), ("write", 1, 1)),)
FIVE = (FENCE,) * 5
QUESTIONS = ("events", "cells", "ended", "outcomes")


def led(design, program, *events):
    """A desk with a row of events."""
    desk = Desk(design, program)
    for core, place in events:
        desk.run(f"do {core} {place}")
    return desk


class Checks(unittest.TestCase):
    def assert_answers(self, desk, *expected):
        """What the desk tells of events, cells and the end, and of the outcomes if that is told too."""
        found = [desk.run(line) for line in QUESTIONS[:len(expected)]]
        self.assertEqual(found, list(expected))
        self.assertEqual({type(answer) for answer in found}, {str})

    def assert_raises(self, error, desk, line, /, **fields):
        """The line raises the error, and the desk stays as it was."""
        row, events, cells = desk.row, desk.run("events"), desk.run("cells")
        with self.subTest(line=short(line)):
            with self.assertRaises(error) as caught:
                desk.run(line)
            self.assertIs(type(caught.exception), error)
            self.assertEqual(vars(caught.exception), fields)
        self.assertEqual((desk.row, desk.run("events"), desk.run("cells")), (row, events, cells))

    def assert_row(self, desk, row):
        self.assertEqual(desk.row, row)
        self.assertIs(type(desk.row), tuple)
        for event in desk.row:
            self.assertEqual([type(event)] + [type(part) for part in event], [tuple, int, int])


class Example(Checks):
    def test_example(self):
        desk = Desk((), CROSSED)
        found = [desk.run("events"), desk.run("do 0 1"), desk.run("do 1 0"), desk.run("cells"), desk.run("ended")]
        found += [desk.run("outcomes"), desk.undo(), desk.row]
        self.assertEqual(found, ["0.0 0.1 1.0 1.1", None, None, "0 1 0", "no", "4", None, ((0, 1),)])
        self.assert_raises(NotNow, desk, "do 0 1")


class Lines(Checks):
    def test_at_the_start(self):
        self.assert_answers(Desk((), CROSSED), "0.0 0.1 1.0 1.1", "0 0 0", "no", "4")
        self.assert_answers(Desk(("wr",), CROSSED), "0.0 1.0", "0 0 0", "no", "3")
        self.assert_answers(Desk(PLAIN, (FIVE, (), FIVE)), "0.0 2.0", "0 0 0", "no", "1")
        self.assert_answers(Desk((), ((), CROSSED[0])), "1.0 1.1", "0 0 0", "no", "1")

    def test_with_nothing_to_do(self):
        for program in (((),), ((), ()), ((), (), ())):
            self.assert_answers(Desk((), program), "", "0 0 0", "yes", "1")
            self.assert_row(Desk((), program), ())

    def test_on_the_way(self):
        desk = Desk((), CROSSED)
        self.assertIsNone(desk.run("do 1 1"))
        self.assert_answers(desk, "0.0 0.1 1.0", "0 0 0", "no", "4")
        self.assertIsNone(desk.run("do 0 0"))
        self.assert_answers(desk, "0.1 1.0", "1 0 0", "no", "4")
        self.assertIsNone(desk.run("do 1 0"))
        self.assert_answers(desk, "0.1", "1 1 0", "no", "4")
        self.assert_row(desk, ((1, 1), (0, 0), (1, 0)))

    def test_at_the_end(self):
        desk = led((), CROSSED, (1, 1), (0, 0), (1, 0), (0, 1))
        self.assert_answers(desk, "", "1 1 0", "yes", "4")
        self.assert_row(desk, ((1, 1), (0, 0), (1, 0), (0, 1)))

    def test_at_the_end_of_a_core(self):
        desk = led((), GUARDED, (0, 0))
        self.assert_answers(desk, "", "0 0 0", "yes", "1")
        desk = led((), GUARDED + ((("write", 2, 7),),), (0, 0))
        self.assert_answers(desk, "1.0", "0 0 0", "no", "1")
        desk.run("do 1 0")
        self.assert_answers(desk, "", "0 0 7", "yes", "1")

    def test_at_a_dead_end(self):
        desk = led((), GUARDED, (0, 1))
        self.assert_answers(desk, "", "0 1 0", "no", "1")
        self.assert_raises(NotNow, desk, "do 0 0")
        desk.undo()
        self.assert_answers(desk, "0.0 0.1", "0 0 0", "no", "1")

    def test_cells(self):
        program = ((("write", 2, 9), ("read", 1, 2), ("copy", 0, 1)), (("write", 1, 4),))
        desk = Desk((), program)
        for event, cells in (("0 0", "0 0 9"), ("0 1", "0 0 9"), ("1 0", "0 4 9"), ("0 2", "9 4 9")):
            self.assertIsNone(desk.run("do " + event))
            self.assertEqual(desk.run("cells"), cells)

    def test_outcomes(self):
        for at, program in enumerate(SMALL):
            for design in some_designs(at, 3):
                desk = Desk(design, program)
                many = str(len(outcomes(design, program)))
                self.assertEqual(desk.run("outcomes"), many)
                for core, place in Hand(design, program).events()[:1]:
                    desk.run(f"do {core} {place}")
                self.assertEqual(desk.run("outcomes"), many)

    def test_more_than_nine_outcomes(self):
        program = ((("read", 0, 0), ("read", 1, 1)), tuple(("write", at % 2, at) for at in range(1, 6)))
        self.assertEqual(Desk((), program).run("outcomes"), str(len(outcomes((), program))))
        self.assertGreater(len(outcomes((), program)), 9)

    def test_questions_change_nothing(self):
        desk = led((), CROSSED, (0, 1))
        answers = [desk.run(line) for line in QUESTIONS]
        for line in QUESTIONS * 2:
            self.assertEqual(desk.run(line), answers[QUESTIONS.index(line)])
        self.assert_row(desk, ((0, 1),))


class Doing(Checks):
    def test_events_that_cannot_come(self):
        desk = Desk(("wr",), CROSSED)
        self.assert_raises(NotNow, desk, "do 0 1")
        self.assert_raises(NotNow, desk, "do 1 1")
        desk.run("do 0 0")
        self.assert_raises(NotNow, desk, "do 1 1")
        self.assertIsNone(desk.run("do 0 1"))

    def test_events_that_are_done(self):
        desk = led((), CROSSED, (0, 1))
        self.assert_raises(NotNow, desk, "do 0 1")
        desk.run("do 1 1")
        self.assert_raises(NotNow, desk, "do 0 1")
        self.assert_raises(NotNow, desk, "do 1 1")

    def test_events_behind_the_end_of_a_core(self):
        self.assert_raises(NotNow, led((), GUARDED, (0, 0)), "do 0 1")
        self.assert_raises(NotNow, led((), GUARDED, (0, 0)), "do 0 0")

    def test_events_at_the_end(self):
        desk = led((), CROSSED, (0, 0), (0, 1), (1, 0), (1, 1))
        for core, place in itertools.product(range(4), repeat=2):
            self.assert_raises(NotNow, desk, f"do {core} {place}")

    def test_cores_and_places_that_do_not_exist(self):
        for numbers in ("2 0", "3 0", "9 9", "10 0", "0 10", "0 2", "1 2", "1 5", "0 9", "100 100", "1 10000"):
            self.assert_raises(NotNow, Desk((), CROSSED), "do " + numbers)
        self.assert_raises(NotNow, Desk((), ((), CROSSED[0])), "do 0 0")
        self.assert_raises(NotNow, Desk((), ((),)), "do 0 0")

    def test_numbers_of_very_many_digits(self):
        # Python makes no number of so many digits.
        many = "1" + "0" * 10000
        for numbers in ("0 " + many, many + " 0", many + " " + many):
            self.assert_raises(NotNow, Desk((), CROSSED), "do " + numbers)
        for numbers in ("0 0" + many, "0" + many + " 0", "-" + many + " 0", "0 " + "0" * 10000, "0 " + many + "x"):
            self.assert_raises(InvalidText, Desk((), CROSSED), "do " + numbers, line=1)

    def test_every_pair_of_numbers(self):
        for program in SMALL:
            events = Hand((), program).events()
            for event in itertools.product(range(12), repeat=2):
                desk = Desk((), program)
                if event in events:
                    self.assertIsNone(desk.run("do {} {}".format(*event)))
                    self.assert_row(desk, (event,))
                else:
                    self.assert_raises(NotNow, desk, "do {} {}".format(*event))


class OtherLines(Checks):
    def assert_invalid(self, line):
        for desk in (Desk((), CROSSED), led((), CROSSED, (0, 0), (0, 1))):
            self.assert_raises(InvalidText, desk, line, line=1)

    def test_do_with_spaces(self):
        for line in ("do  1 0", "do 1  0", " do 1 0", "do 1 0 ", "do 1 0  ", "do\t1 0", "do 1\t0", "do 1 0\t",
                     "do 1 0\n", "\ndo 1 0", "do 1\n0", "do 1 0\r", "do\u00a01 0", "do 1\u00a00", "do 1 0\nevents",
                     "do 1 0\ndo 1 1"):
            self.assert_invalid(line)

    def test_do_with_other_counts_of_numbers(self):
        for line in ("do", "do ", "do  ", "do 1", "do 1 ", "do 1 0 0", "do 1 0 1 1", "do 10", "do1 0", "do 1.0",
                     "do 1,0", "do 1, 0", "do (1, 0)", "do 1 0; do 1 1", "do do 1 0", "do 1 0 do", "do 1 do"):
            self.assert_invalid(line)

    def test_do_with_numbers_written_otherwise(self):
        for number in ("00", "01", "001", "000", "+0", "+1", "-0", "-1", "1.0", "0x1", "1e0", "1_0", "a", "", "True",
                       "()", "None", "one", "-", "0-", "1\x00", "\u22121", "0" * 50):
            self.assert_invalid(f"do {number} 0")
            self.assert_invalid(f"do 1 {number}")
            self.assert_invalid(f"do {number} {number}")
            self.assert_invalid(f"do 9 {number}")

    def test_do_with_digits_that_are_no_ascii_digits(self):
        for digit in "\u0661\u00b2\u096a\uff11\u2460\U0001d7ce":
            self.assertTrue(digit.isdigit())
            self.assert_invalid(f"do {digit} 0")
            self.assert_invalid(f"do 1 {digit}")
            self.assert_invalid(f"do 1 1{digit}")

    def test_other_words(self):
        for line in ("", " ", "-", "undo", "row", "run", "ended?", "event", "end", "outcome", "cell", "help", "Do 1 0",
                     "DO 1 0", "did 1 0", "1 0", "1.0", "Events", "CELLS", "fence", "read 0 0", "yes", "\x00", "\ud800",
                     "events\x00", "x" * 10000):
            self.assert_invalid(line)

    def test_questions_with_something_besides(self):
        for word in QUESTIONS:
            for line in (word + " ", " " + word, word + "\n", "\n" + word, word + " 0", word + " 1 0", word + word,
                         word + " " + word, word + "\n" + word, word[:-1], word[1:], word.upper(), word + "\r",
                          word + ";"):
                self.assert_invalid(line)

    def test_not_text(self):
        values = [value for value in odd_values() if not isinstance(value, str)]
        values += [b"events", b"", b"do 1 0", ("do", 1, 0), ["events"], ("events",), (1, 0), Desk((), CROSSED)]
        for value in values:
            self.assert_raises(NotText, Desk((), CROSSED), value)
            self.assert_raises(NotText, led((), CROSSED, (0, 1)), value)

    def test_arguments_are_kept(self):
        value = ["do 1 0", ["events"]]
        before = copy.deepcopy(value)
        self.assert_raises(NotText, Desk((), CROSSED), value)
        self.assertEqual(value, before)


class Undoing(Checks):
    def assert_nothing(self, desk):
        with self.assertRaises(NothingToUndo) as caught:
            desk.undo()
        self.assertIs(type(caught.exception), NothingToUndo)

    def test_at_the_start(self):
        desk = Desk((), CROSSED)
        for _ in range(3):
            self.assert_nothing(desk)
            self.assert_row(desk, ())
        self.assertIsNone(desk.run("do 0 0"))
        self.assert_row(desk, ((0, 0),))

    def test_back_to_the_start(self):
        row = ((1, 1), (0, 0), (1, 0), (0, 1))
        desk = led((), CROSSED, *row)
        for many in (3, 2, 1, 0):
            self.assertIsNone(desk.undo())
            self.assert_row(desk, row[:many])
            other = led((), CROSSED, *row[:many])
            self.assertEqual([desk.run(line) for line in QUESTIONS], [other.run(line) for line in QUESTIONS])
        self.assert_nothing(desk)
        self.assert_answers(desk, "0.0 0.1 1.0 1.1", "0 0 0", "no", "4")

    def test_back_and_another_way(self):
        desk = led((), CROSSED, (0, 0), (0, 1))
        desk.undo()
        self.assertIsNone(desk.run("do 1 1"))
        self.assert_row(desk, ((0, 0), (1, 1)))
        desk.undo()
        desk.undo()
        self.assertIsNone(desk.run("do 1 0"))
        self.assert_row(desk, ((1, 0),))
        self.assertEqual(desk.run("cells"), "0 1 0")

    def test_behind_an_error(self):
        desk = led((), CROSSED, (0, 0))
        self.assert_raises(NotNow, desk, "do 0 0")
        self.assert_raises(InvalidText, desk, "do", line=1)
        self.assert_raises(NotText, desk, None)
        desk.undo()
        self.assert_nothing(desk)

    def test_with_nothing_to_do(self):
        self.assert_nothing(Desk((), ((),)))

    def test_ten_events(self):
        desk = led((), (FIVE, FIVE), *[(core, place) for core in (0, 1) for place in range(5)])
        self.assert_answers(desk, "", "0 0 0", "yes", "1")
        for _ in range(10):
            desk.undo()
        self.assert_nothing(desk)


class Rows(Checks):
    def test_for_the_functions_of_hands(self):
        chance = random.Random(31)
        for at, program in enumerate(SMALL):
            design = some_designs(at, 1)[-1]
            desk = Desk(design, program)
            while desk.run("events"):
                core, place = chance.choice(events_behind(design, program, desk.row))
                desk.run(f"do {core} {place}")
                events = [f"{core}.{place}" for core, place in events_behind(design, program, desk.row)]
                self.assertEqual(desk.run("events"), " ".join(events))
                self.assertEqual(desk.run("ended"), "yes" if has_ended(design, program, desk.row) else "no")
            if desk.run("ended") == "yes":
                cells = told_by(design, program, desk.row)[1]
                self.assertEqual(desk.run("cells"), " ".join(map(str, cells)))

    def test_of_an_earlier_time(self):
        desk = Desk((), CROSSED)
        rows = [desk.row]
        for line in ("do 0 1", "do 1 0", "do 0 0"):
            desk.run(line)
            rows.append(desk.row)
        desk.undo()
        self.assertEqual(rows, [(), ((0, 1),), ((0, 1), (1, 0)), ((0, 1), (1, 0), (0, 0))])

    def test_it_is_a_property(self):
        self.assertIsInstance(vars(Desk)["row"], property)
        for name in ("run", "undo"):
            self.assertIn(name, vars(Desk))

    def test_by_keywords(self):
        desk = Desk(design=("wr",), program=CROSSED)
        self.assertEqual(desk.run(line="events"), "0.0 1.0")

    def test_two_desks(self):
        one, other, third = Desk((), CROSSED), Desk((), CROSSED), Desk(("wr",), CROSSED)
        one.run("do 0 1")
        one.run("do 0 0")
        self.assert_row(other, ())
        self.assert_answers(other, "0.0 0.1 1.0 1.1", "0 0 0", "no", "4")
        self.assert_answers(third, "0.0 1.0", "0 0 0", "no", "3")
        other.run("do 1 0")
        third.run("do 0 0")
        self.assert_row(one, ((0, 1), (0, 0)))
        self.assert_answers(one, "1.0 1.1", "1 0 0", "no", "4")
        one.undo()
        self.assert_row(other, ((1, 0),))
        self.assert_row(third, ((0, 0),))
        self.assert_answers(third, "0.1 1.0", "1 0 0", "no", "3")


class SecondTelling(Checks):
    """Every row of small programs, and many of others, against the walk of tests.walks."""

    def assert_same(self, desk, hand):
        self.assertEqual(desk.run("events"), " ".join("{}.{}".format(*event) for event in hand.events()))
        self.assertEqual(desk.run("cells"), "{} {} {}".format(*hand.cells))
        self.assertEqual(desk.run("ended"), "yes" if hand.has_ended() else "no")

    def test_small_programs(self):
        for at, program in enumerate(SMALL):
            if sum(map(len, program)) <= 4:
                for design in some_designs(at, 2):
                    for row, hand in all_hands(design, program):
                        desk = led(design, program, *row)
                        self.assert_same(desk, hand)
                        self.assert_row(desk, row)

    def test_there_and_back(self):
        chance = random.Random(32)
        for at, program in enumerate(any_programs(33, 60, [(5, 5), (4, 3, 3), (5, 2), (3, 3, 1)])):
            design = some_designs(at, 1)[-1]
            desk, row = Desk(design, program), ()
            for _ in range(25):
                events = Hand(design, program, row).events()
                if events and (not row or chance.random() < 0.7):
                    row += (chance.choice(events),)
                    self.assertIsNone(desk.run("do {} {}".format(*row[-1])))
                elif row:
                    row = row[:-1]
                    self.assertIsNone(desk.undo())
                self.assert_row(desk, row)
                self.assert_same(desk, Hand(design, program, row))


class WrongArguments(Checks):
    def assert_not_made(self, error, design, program, **fields):
        with self.subTest(design=short(design), program=short(program)):
            with self.assertRaises(error) as caught:
                Desk(design, program)
            self.assertIs(type(caught.exception), error)
            self.assertEqual(vars(caught.exception), fields)

    def test_bad_design(self):
        for design in odd_values() + [("rw", "rr"), ("rr", "rr"), ("rx",), ["rr"], "rr", "-", ("rr", None), ("rr", 1)]:
            self.assert_not_made(BadDesign, design, CROSSED)

    def test_bad_program(self):
        for program in ((), ((),) * 4, [()], None, "fence", 1, True, {}):
            self.assert_not_made(BadProgram, (), program, core=None)
        self.assert_not_made(BadProgram, (), (None,), core=0)
        self.assert_not_made(BadProgram, (), ((), [FENCE]), core=1)
        self.assert_not_made(BadProgram, ALL, ((FENCE,) * 6,), core=0)
        self.assert_not_made(BadProgram, (), (FIVE, FIVE, (FENCE,)), core=2)
        for value in odd_values():
            self.assert_not_made(BadProgram, (), (CROSSED[0], (), value), core=2)

    def test_first_argument_first(self):
        for program in (None, (), ((), None), (FIVE, FIVE, FIVE)):
            self.assert_not_made(BadDesign, ["rr"], program)
            self.assert_not_made(BadDesign, ("rr", "rr"), program)

    def test_arguments_are_kept(self):
        for arguments in ([["rr"], [[["read", 0, 0]]]], [(), [[["read", 0, 0]]]], [(), ((), [["fence"]])]):
            before = copy.deepcopy(arguments)
            with self.assertRaises((BadDesign, BadProgram)):
                Desk(*arguments)
            self.assertEqual(arguments, before)


if __name__ == "__main__":
    unittest.main()
