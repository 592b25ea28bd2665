import copy
import unittest
from reprlib import repr as short

from pairskept.errors import BadCore, BadProgram
from pairskept.programs import check_core, check_program, is_instruction
from tests.values import odd_values

FENCE = ("fence",)

# Word, and for each number behind it the greatest one: told here again, apart from the program.
KINDS = [("read", (1, 2)), ("write", (2, 9)), ("copy", (2, 1)), ("fence", ()), ("guard", (1, 9))]


def all_instructions():
    found = [FENCE]
    found += [("read", r, x) for r in (0, 1) for x in (0, 1, 2)]
    found += [("write", x, n) for x in (0, 1, 2) for n in range(10)]
    found += [("copy", x, r) for x in (0, 1, 2) for r in (0, 1)]
    found += [("guard", r, n) for r in (0, 1) for n in range(10)]
    return found


class Instructions(unittest.TestCase):
    def assert_none(self, value):
        with self.subTest(value=short(value)):
            self.assertIs(is_instruction(value), False)

    def test_example(self):
        found = [is_instruction(("read", 0, 2)), is_instruction(("read", 0, 3)), is_instruction(("fence",))]
        self.assertEqual(found, [True, False, True])

    def test_every_instruction(self):
        self.assertEqual(len(all_instructions()), 63)
        for value in all_instructions():
            with self.subTest(value=value):
                self.assertIs(is_instruction(value), True)

    def test_nothing_else_near(self):
        near = range(-3, 13)
        found = [(word,) for word, _ in KINDS]
        found += [(word, k) for word, _ in KINDS for k in near]
        found += [(word, k, m) for word, _ in KINDS for k in near for m in near]
        self.assertEqual(sorted(value for value in found if is_instruction(value)), sorted(all_instructions()))

    def test_each_number_at_its_bounds_and_beyond(self):
        for word, greatest in KINDS:
            for at, most in enumerate(greatest):
                for number, expected in ((0, True), (most, True), (-1, False), (most + 1, False)):
                    numbers = [0] * len(greatest)
                    numbers[at] = number
                    with self.subTest(word=word, at=at, number=number):
                        self.assertIs(is_instruction((word, *numbers)), expected)

    def test_something_in_the_place_of_a_number(self):
        wrong = [True, False, None, "0", "", (), (0,), [], [0], {}, 10 ** 40, -10 ** 40]
        for word, greatest in KINDS:
            for at in range(len(greatest)):
                for other in wrong:
                    numbers = [0] * len(greatest)
                    numbers[at] = other
                    self.assert_none((word, *numbers))

    def test_wrong_count_of_items(self):
        self.assert_none(())
        for word, greatest in KINDS:
            for count in range(5):
                if count != len(greatest):
                    self.assert_none((word,) + (0,) * count)

    def test_wrong_word(self):
        for word in ("", "READ", "Fence", " read", "reads", "r", "store", None, 0, True, (), ("read",), [], {}):
            self.assert_none((word, 0, 0))
            self.assert_none((word,))

    def test_no_tuple(self):
        for value in (["read", 0, 0], ["fence"], "fence", "read 0 0", None, 0, True, {"read": 0}, {}, {"fence"}):
            self.assert_none(value)

    def test_odd_values(self):
        for value in odd_values():
            self.assert_none(value)

    def test_argument_is_kept(self):
        value = ["read", [0], {"x": (1, 2)}]
        before = copy.deepcopy(value)
        is_instruction(value)
        is_instruction(("read", value, value))
        self.assertEqual(value, before)


class Cores(unittest.TestCase):
    def test_cores(self):
        for core in ((), (FENCE,), (FENCE,) * 5, (("read", 0, 0), ("guard", 0, 1), ("write", 1, 1), ("copy", 2, 1))):
            with self.subTest(core=core):
                self.assertIsNone(check_core(core))

    def test_no_cores(self):
        wrong = [(FENCE,) * 6, [FENCE], FENCE, (FENCE, None), (FENCE, ("read", 0, 3)), (FENCE, ["fence"]), "fence"]
        for core in wrong + odd_values():
            with self.subTest(core=short(core)), self.assertRaises(BadCore):
                check_core(core)


class Programs(unittest.TestCase):
    def assert_bad(self, program, core):
        with self.subTest(program=short(program)):
            with self.assertRaises(BadProgram) as caught:
                check_program(program)
            self.assertEqual((caught.exception.core, type(caught.exception.core)), (core, type(core)))

    def test_programs(self):
        five = (FENCE,) * 5
        for program in (((),), ((), ()), ((), (), ()), (five,), (five, five), (five, five, ()), (five, (), five)):
            with self.subTest(program=program):
                self.assertIsNone(check_program(program))

    def test_no_tuple_of_one_to_three_items(self):
        for program in [(), ((),) * 4, [()], [], "", "abc", None, 1, True, {}, {0: ()}, (None,) * 4]:
            self.assert_bad(program, None)

    def test_first_wrong_item(self):
        self.assert_bad((None,), 0)
        self.assert_bad(([],), 0)
        self.assert_bad((FENCE,), 0)
        self.assert_bad(((), ("fence",)), 1)
        self.assert_bad(((), (), ((),)), 2)
        self.assert_bad(((), True, None), 1)
        self.assert_bad(((FENCE,) * 6, None), 0)
        self.assert_bad(((), (FENCE,) * 6), 1)
        self.assert_bad(((), (FENCE,), (("read", True, 0),)), 2)

    def test_more_than_ten_instructions(self):
        self.assert_bad(((FENCE,) * 5, (FENCE,) * 5, (FENCE,)), 2)
        self.assert_bad(((FENCE,) * 4, (FENCE,) * 4, (FENCE,) * 3), 2)
        self.assert_bad(((FENCE,) * 5, None, (FENCE,) * 5), 1)
        self.assertIsNone(check_program(((FENCE,) * 4, (FENCE,) * 4, (FENCE,) * 2)))

    def test_odd_values(self):
        for value in odd_values():
            with self.subTest(value=short(value)), self.assertRaises(BadProgram):
                check_program((value,))


if __name__ == "__main__":
    unittest.main()
