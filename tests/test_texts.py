import copy
import itertools
import re
import unittest
from reprlib import repr as short

from pairskept.designs import all_designs
from pairskept.errors import BadDesign, BadProgram, InvalidText, NotText
from pairskept.programs import is_instruction
from pairskept.texts import read_design, read_program, write_design, write_program
from tests.values import odd_values
from tests.walks import ALL, FENCE, SMALL, any_programs

CROSSED = ((("write", 0, 1), ("read", 0, 1)), (("write", 1, 1), ("read", 0, 0)))
FIVE = (FENCE,) * 5
FIVE_LINE = "fence; fence; fence; fence; fence"
# Point 15 names no digit but the ten of ASCII; Python takes each of these for one too.
OTHER_DIGITS = "\u0661\u00b2\u096a\uff11\u2460\U0001d7ce"
NO_STRINGS = [
    None, True, False, 0, 1, 10 ** 30, b"", b"-", b"fence", (), ("fence",), ("-",), [], ["-"], {}, {"-": "-"}, CROSSED,
    InvalidText(1), NotText("-"),
] + [value for value in odd_values() if not isinstance(value, str)]


def all_instructions():
    found = [FENCE]
    for word, number, other in itertools.product(("read", "write", "copy", "guard"), range(10), range(10)):
        if is_instruction((word, number, other)):
            found.append((word, number, other))
    return found


class Checks(unittest.TestCase):
    def assert_raises(self, error, function, *arguments, **fields):
        with self.subTest(function=function.__name__, arguments=short(arguments)):
            with self.assertRaises(error) as caught:
                function(*arguments)
            self.assertIs(type(caught.exception), error)
            self.assertEqual(vars(caught.exception), fields)

    def assert_invalid(self, text, line):
        self.assert_raises(InvalidText, read_program, text, line=line)

    def assert_no_core(self, line):
        """The line is no core, in whatever line it stands."""
        self.assert_invalid(line, 1)
        self.assert_invalid(line + "\nfence", 1)
        self.assert_invalid("-\n" + line, 2)
        self.assert_invalid("read 0 0\n" + line + "\n-", 2)
        self.assert_invalid("-\nfence; guard 1 9\n" + line, 3)
        self.assert_invalid("-\n-\n" + line + "\n-", 3)


class Example(Checks):
    def test_example(self):
        found = [write_program(CROSSED), read_program("fence; guard 0 1\n-"), write_design(()), read_design("rr ww")]
        expected = ["write 0 1; read 0 1\nwrite 1 1; read 0 0", ((("fence",), ("guard", 0, 1)), ()), "-", ("rr", "ww")]
        self.assertEqual(found, expected)
        self.assert_invalid("fence;", 1)


class ByHand(Checks):
    LINES = [
        (((),), "-"),
        (((), ()), "-\n-"),
        (((), (), ()), "-\n-\n-"),
        (((FENCE,),), "fence"),
        (((), (FENCE,), ()), "-\nfence\n-"),
        (((("read", 1, 2),),), "read 1 2"),
        (((("write", 2, 9),),), "write 2 9"),
        (((("copy", 2, 1),),), "copy 2 1"),
        (((("guard", 1, 9),),), "guard 1 9"),
        (((("read", 0, 0), ("write", 0, 0), ("copy", 0, 0), ("guard", 0, 0), FENCE),),
         "read 0 0; write 0 0; copy 0 0; guard 0 0; fence"),
        ((FIVE, FIVE), FIVE_LINE + "\n" + FIVE_LINE),
        ((FIVE, FIVE, ()), FIVE_LINE + "\n" + FIVE_LINE + "\n-"),
        ((FIVE, (), FIVE), FIVE_LINE + "\n-\n" + FIVE_LINE),
        ((FIVE, (FENCE,) * 4, (FENCE,)), FIVE_LINE + "\nfence; fence; fence; fence\nfence"),
    ]

    def test_programs(self):
        for program, text in self.LINES:
            with self.subTest(text=text):
                self.assertEqual(write_program(program), text)
                self.assertEqual(read_program(text), program)

    def test_kinds_of_values(self):
        for program, text in self.LINES:
            found = read_program(text)
            self.assertIs(type(write_program(program)), str)
            self.assertIs(type(found), tuple)
            self.assertEqual({type(core) for core in found}, {tuple})
            for core in found:
                self.assertTrue(all(is_instruction(item) for item in core))

    def test_every_instruction(self):
        self.assertEqual(len(all_instructions()), 63)
        for item in all_instructions():
            text = " ".join(map(str, item))
            self.assertEqual(write_program(((item,),)), text)
            self.assertEqual(read_program(text), ((item,),))
            self.assertEqual(read_program("-\nfence; " + text), ((), (FENCE, item)))


class ThereAndBack(Checks):
    def test_programs(self):
        for program in SMALL + any_programs(21, 300, [(5,), (5, 5), (4, 3, 3), (0, 2), (1, 0, 4), (0, 0, 1)]):
            self.assertEqual(read_program(write_program(program)), program)
            self.assertEqual(write_program(read_program(write_program(program))), write_program(program))

    def test_cores_without_any_instruction(self):
        for sizes in itertools.product((0, 0, 1), repeat=3):
            program = tuple((FENCE,) * size for size in sizes)
            self.assertEqual(read_program(write_program(program)), program)

    def test_designs(self):
        texts = set()
        for design in all_designs():
            self.assertEqual(read_design(write_design(design)), design)
            self.assertIs(type(read_design(write_design(design))), tuple)
            texts.add(write_design(design))
        self.assertEqual(len(texts), 256)


class NoCores(Checks):
    def test_empty_line(self):
        self.assert_no_core("")

    def test_unknown_words(self):
        for word in ("store", "reads", "rea", "READ", "Fence", "FENCE", "fences", "fenc", "none", "--", "+", "_", "0",
                     "rr", "'fence'", "('fence',)", "#", "\x00", "fence\x00", "f\u00e9nce", "\uff46ence", "\ud800"):
            self.assert_no_core(word)
            self.assert_no_core(word + " 0 0")
            self.assert_no_core("fence; " + word)

    def test_numbers_missing_or_needless(self):
        for word in ("read", "write", "copy", "guard"):
            for rest in ("", " 0", " 0 0 0", " 0 0 0 0"):
                self.assert_no_core(word + rest)
        for rest in (" 0", " 0 0", " 1"):
            self.assert_no_core("fence" + rest)
            self.assert_no_core("-" + rest)
        self.assert_no_core("0 read 0")
        self.assert_no_core("0 0 read")

    def test_numbers_out_of_their_ranges(self):
        for word, first, second in (("read", 1, 2), ("write", 2, 9), ("copy", 2, 1), ("guard", 1, 9)):
            self.assertEqual(read_program(f"{word} {first} {second}"), (((word, first, second),),))
            for number in (first + 1, 9, 10, 11, 99, 10 ** 30):
                self.assert_no_core(f"{word} {number} 0")
            for number in (second + 1, 10, 11, 19, 99, 10 ** 30):
                self.assert_no_core(f"{word} 0 {number}")

    def test_numbers_of_very_many_digits(self):
        # Python makes no number of so many digits.
        for digit in "019":
            self.assert_no_core("read 0 " + digit * 10000)
            self.assert_no_core("write " + digit * 10000 + " 1")

    def test_needless_zeros(self):
        for number in ("00", "01", "001", "000", "09"):
            self.assert_no_core("write 0 " + number)
            self.assert_no_core("guard " + number + " 1")

    def test_signs_and_other_writings_of_numbers(self):
        for number in ("+0", "-0", "+1", "-1", "--1", "1.0", "1.", ".1", "1e0", "0x1", "0b1", "1_0", "0_1", "1,", "(1)",
                       "a", "one", "True", "False", "None", "", "\u2212" + "1", "1\x00", "I", "\u2160"):
            self.assert_no_core("write 0 " + number)
            self.assert_no_core("write " + number + " 0")

    def test_digits_that_are_no_ascii_digits(self):
        for digit in OTHER_DIGITS:
            self.assertTrue(digit.isdigit())
            self.assert_no_core("write 0 " + digit)
            self.assert_no_core("read " + digit + " 0")
            self.assert_no_core("write 0 1" + digit)

    def test_spaces(self):
        for line in ("read  0 0", "read 0  0", "read 0 0;  fence", "read 0 0 ; fence", " read 0 0", "read 0 0 ", " ",
                     "  ", "fence ", " fence", "- ", " -", "read\t0 0", "read 0\t0", "\tfence", "fence\t", "fence\r",
                     "fence\x0b", "fence\x0c", "fence\u2028", "fence\x85", "fence\u00a0", "read\u00a00 0", "read 0 0\r",
                     "-\r", "fence;\tfence", "fence;\u00a0fence", "fence\x1cfence", "fence\rfence", "-\r-"):
            self.assert_no_core(line)

    def test_semicolons(self):
        for line in ("fence;", "fence; ", ";", "; ", "; fence", ";fence", "fence;fence", "read 0 0;fence",
                     "fence;;fence", "fence; ; fence", "fence; ; ", "fence;  fence", "fence, fence", "fence fence",
                     "fence: fence", "read 0 0 fence", "fence; fence;", "fence; fence; "):
            self.assert_no_core(line)

    def test_dash_beside_an_instruction(self):
        for line in ("-; fence", "fence; -", "-; -", "-;", "-; ", "; -", "- fence", "fence -", "fence; -; fence",
                     "-fence", "--", "- -"):
            self.assert_no_core(line)

    def test_six_instructions(self):
        self.assertEqual(read_program(FIVE_LINE), (FIVE,))
        for many in (6, 7, 11, 100):
            self.assert_no_core("; ".join(["fence"] * many))
        self.assert_no_core("; ".join(["read 0 0"] * 6))


class Lines(Checks):
    def test_first_wrong_line_of_several(self):
        self.assert_invalid("x\ny\nz", 1)
        self.assert_invalid("-\ny\nz", 2)
        self.assert_invalid("-\n-\nz", 3)
        self.assert_invalid("x\n-\nz", 1)
        self.assert_invalid("-\ny\n-", 2)
        self.assert_invalid("-\ny\n-\n-", 2)
        self.assert_invalid("x\n-\n-\n-\n-", 1)
        self.assert_invalid("-\n-\nz\nfence\n", 3)
        self.assert_invalid("\n\n", 1)
        self.assert_invalid("-\n\n", 2)

    def test_more_than_ten_instructions(self):
        self.assert_invalid(FIVE_LINE + "\n" + FIVE_LINE + "\nfence", 3)
        self.assert_invalid(FIVE_LINE + "\nfence; fence; fence\nfence; fence; fence", 3)
        self.assert_invalid(FIVE_LINE + "\n" + FIVE_LINE + "\n" + FIVE_LINE + "\nfence", 3)
        self.assert_invalid(FIVE_LINE + "\n" + FIVE_LINE + "\n-\nfence", 4)
        self.assert_invalid(FIVE_LINE + "; fence\n" + FIVE_LINE, 1)
        self.assert_invalid(FIVE_LINE + "\n" + FIVE_LINE + "; fence", 2)
        self.assert_invalid(FIVE_LINE + "\nx\n" + FIVE_LINE, 2)
        self.assertEqual(read_program(FIVE_LINE + "\n" + FIVE_LINE + "\n-"), (FIVE, FIVE, ()))

    def test_fourth_line(self):
        for last in ("-", "fence", "x", "", FIVE_LINE, "-\n-", "\n", "x\ny\nz"):
            self.assert_invalid("-\nfence\n-\n" + last, 4)

    def test_line_feed_at_the_end(self):
        self.assert_invalid("-\n", 2)
        self.assert_invalid("fence\n", 2)
        self.assert_invalid("fence\n-\n", 3)
        self.assert_invalid("fence\n-\nread 0 0\n", 4)
        self.assert_invalid("fence\n\n", 2)

    def test_line_feed_at_the_start_and_elsewhere(self):
        self.assert_invalid("\n", 1)
        self.assert_invalid("\n-", 1)
        self.assert_invalid("-\n\n-", 2)
        self.assert_invalid("read 0\n0", 1)
        self.assert_invalid("fence; \nfence", 1)
        self.assert_invalid("fence\n; fence", 2)

    def test_empty_text(self):
        self.assert_invalid("", 1)

    def test_other_ends_of_lines(self):
        for end in ("\r\n", "\r", "\x0b", "\x0c", "\x85", "\u2028", "\u2029", "\x1c"):
            self.assert_invalid("-" + end + "-", 1)
        self.assert_invalid("-\n-\r\n-", 2)


class SecondTelling(Checks):
    """Texts near a program's text, against what a pattern tells of their lines."""

    ITEM = "(read [01] [0-2]|write [0-2] [0-9]|copy [0-2] [01]|fence|guard [01] [0-9])"
    CORE = re.compile(f"-|{ITEM}(; {ITEM}){{0,4}}")
    TEXTS = ["read 1 2; fence", "-\n-\n-", "copy 2 0\n-", "guard 0 9; write 1 0\nfence", FIVE_LINE,
             FIVE_LINE + "\n" + FIVE_LINE + "\n-"]

    def first_wrong_line(self, text):
        """The number, from 1, of the first wrong line, None if there is none."""
        left = 10
        for number, line in enumerate(text.split("\n"), start=1):
            left -= 0 if line == "-" else line.count(";") + 1
            if number == 4 or left < 0 or not self.CORE.fullmatch(line):
                return number
        return None

    def assert_same(self, text):
        wrong = self.first_wrong_line(text)
        if wrong is None:
            self.assertEqual(write_program(read_program(text)), text)
        else:
            self.assert_invalid(text, wrong)
        return wrong

    def test_one_character_more_less_or_other(self):
        found = set()
        for text in self.TEXTS:
            self.assertIsNone(self.assert_same(text))
            for at in range(len(text) + 1):
                found.add(self.assert_same(text[:at] + text[at + 1:]))
                for character in " ;-\n0129rxe\u0661":
                    found.add(self.assert_same(text[:at] + character + text[at:]))
                    found.add(self.assert_same(text[:at] + character + text[at + 1:]))
        self.assertEqual(found, {None, 1, 2, 3, 4})

    def test_parts_put_together(self):
        for many in range(5):
            for parts in itertools.product(("-", "fence", "copy 0 1", "; ", "\n", " "), repeat=many):
                self.assert_same("".join(parts))


class NoDesigns(Checks):
    def assert_none(self, text):
        self.assert_raises(InvalidText, read_design, text, line=1)

    def test_designs(self):
        for design, text in (((), "-"), (("rr",), "rr"), (("gr", "own", "ww"), "gr own ww"),
                             (ALL, "gr gw own rr rw ss wr ww")):
            self.assertEqual(write_design(design), text)
            self.assertIs(type(write_design(design)), str)
            self.assertEqual(read_design(text), design)

    def test_words_in_a_wrong_order(self):
        for words in itertools.permutations(("gw", "own", "rr", "ww")):
            if words != ("gw", "own", "rr", "ww"):
                self.assert_none(" ".join(words))
        self.assert_none("ww rr")

    def test_words_twice(self):
        self.assert_none("rr rr")
        self.assert_none("gr own own ww")
        self.assert_none("rr ww rr")

    def test_unknown_words(self):
        for text in ("rx", "RR", "Own", "r", "rrr", "rr wx", "xx ww", "gr same", "own copy", "0", "None", "()", "'rr'",
                     "rr\x00", "r\u0072\u0301", "\uff52\uff52", "\ud800", "rr,ww", "rr, ww", "rr;ww", "rr; ww", "rrww"):
            self.assert_none(text)

    def test_spaces(self):
        for text in ("rr  ww", " rr", "rr ", " rr ww", "rr ww ", " ", "  ", "- ", " -", "rr\tww", "rr\u00a0ww",
                     "rr\rww"):
            self.assert_none(text)

    def test_empty_text(self):
        self.assert_none("")

    def test_dash_beside_a_word(self):
        for text in ("- rr", "rr -", "- -", "--", "-rr", "rr-ww"):
            self.assert_none(text)

    def test_line_feeds(self):
        for text in ("rr\n", "\nrr", "rr\nww", "-\n", "\n-", "\n", "rr ww\n", "-\n-", "rr ww\nrx"):
            self.assert_none(text)


class WrongArguments(Checks):
    def test_not_text(self):
        for value in NO_STRINGS:
            self.assert_raises(NotText, read_program, value)
            self.assert_raises(NotText, read_design, value)

    def test_bad_program(self):
        for program in ((), ((),) * 4, [()], None, "fence", "-", 1, True, {}):
            self.assert_raises(BadProgram, write_program, program, core=None)
        self.assert_raises(BadProgram, write_program, (None,), core=0)
        self.assert_raises(BadProgram, write_program, ((), [FENCE]), core=1)
        self.assert_raises(BadProgram, write_program, ((), (("write", 0, True),)), core=1)
        self.assert_raises(BadProgram, write_program, ((FENCE,) * 6,), core=0)
        self.assert_raises(BadProgram, write_program, (FIVE, FIVE, (FENCE,)), core=2)
        for value in odd_values():
            self.assert_raises(BadProgram, write_program, (CROSSED[0], value, value), core=1)

    def test_bad_design(self):
        wrong = [("rw", "rr"), ("rr", "rr"), ("rx",), ["rr"], "rr", "-", ("rr", None), ("-",), [""]]
        for design in odd_values() + wrong:
            self.assert_raises(BadDesign, write_design, design)

    def test_arguments_are_kept(self):
        value = ["rr", [["fence"]], {"-": [1]}]
        before = copy.deepcopy(value)
        for function in (write_program, read_program, write_design, read_design):
            with self.assertRaises((BadProgram, BadDesign, NotText)):
                function(value)
        with self.assertRaises(BadProgram):
            write_program((value, ()))
        self.assertEqual(value, before)


if __name__ == "__main__":
    unittest.main()
