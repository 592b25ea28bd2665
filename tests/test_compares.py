import copy
import itertools
import unittest
from reprlib import repr as short

from pairskept.compares import alike, below, first_test, normal, normals, shows, tests
from pairskept.designs import all_designs, is_design
from pairskept.errors import BadDesign, BadName
from pairskept.hands import told_by
from pairskept.outcomes import outcomes, row_for
from tests.values import odd_values
from tests.walks import ALL, PLAIN, SMALL, any_programs

NAMES = ("rr", "rw", "wr", "ww", "ss", "gw", "gr", "gr same", "own copy", "own rr", "own gr")

# The lines of point 10 as the document has them.
LINES = '''
"rr": (("read", 0, 0), ("read", 1, 1)); (("write", 1, 1), ("fence",), ("write", 0, 1)); ((1, 0), (0, 0)); (1, 1, 0)
"rw": (("read", 0, 0), ("write", 1, 1)); (("read", 0, 1), ("fence",), ("write", 0, 1)); ((1, 0), (1, 0)); (1, 1, 0)
"wr": (("write", 0, 1), ("read", 0, 1)); (("write", 1, 1), ("fence",), ("read", 0, 0)); ((0, 0), (0, 0)); (1, 1, 0)
"ww": (("write", 0, 1), ("write", 1, 1)); (("read", 0, 1), ("fence",), ("read", 1, 0)); ((0, 0), (1, 0)); (1, 1, 0)
"ss": (("read", 0, 0), ("read", 1, 0)); (("write", 0, 1),); ((1, 0), (0, 0)); (1, 0, 0)
"gw": (("read", 0, 0), ("guard", 0, 1), ("write", 1, 1)); (("read", 0, 1), ("fence",), ("write", 0, 1)); \
((1, 0), (1, 0)); (1, 1, 0)
"gr": (("read", 0, 0), ("guard", 0, 1), ("read", 1, 1)); (("write", 1, 1), ("fence",), ("write", 0, 1)); \
((1, 0), (0, 0)); (1, 1, 0)
"gr same": (("read", 0, 0), ("guard", 0, 1), ("read", 1, 0)); (("write", 0, 1),); ((1, 0), (0, 0)); (1, 0, 0)
"own copy": (("write", 0, 1), ("read", 0, 0), ("copy", 1, 0)); (("read", 0, 1), ("fence",), ("read", 1, 0)); \
((1, 0), (1, 0)); (1, 1, 0)
"own rr": (("write", 0, 1), ("read", 0, 0), ("read", 1, 1)); (("write", 1, 1), ("fence",), ("read", 0, 0)); \
((1, 0), (0, 0)); (1, 1, 0)
"own gr": (("write", 0, 1), ("read", 0, 0), ("guard", 0, 1), ("read", 1, 1)); \
(("write", 1, 1), ("fence",), ("read", 0, 0)); ((1, 0), (0, 0)); (1, 1, 0)
'''


def told_tests():
    """The tests as the lines tell them."""
    found = []
    for line in LINES.strip().split("\n"):
        name, _, rest = line.partition(": ")
        one, other, registers, cells = [eval(part) for part in rest.split("; ")]
        found.append((eval(name), (one, other), (registers, cells)))
    return tuple(found)


def compared(one, other):
    """Point 9 once more, clause by clause: is one below other?"""
    kept = all(word in one for word in ("rr", "rw", "wr", "ww", "ss") if word in other)
    writing = "gw" not in other or "gw" in one or "rw" in one
    reading = "gr" not in other or "gr" in one or {"rr", "ss"} <= set(one)
    own = "own" not in one or "own" in other
    own = own or ("ww" in one and ("wr" in one or not {"rr", "gr"} & set(other)))
    return kept and writing and reading and own


class Shown:
    """What the outcomes of the tests tell of all designs, made once."""

    table = {}

    @classmethod
    def by(cls, design):
        if not cls.table:
            for one in all_designs():
                cls.table[one] = [frozenset(outcomes(one, program)) for _, program, _ in tests()]
        return cls.table[design]

    @classmethod
    def names(cls, design):
        return [name for (name, _, outcome), found in zip(tests(), cls.by(design)) if outcome in found]


class Example(unittest.TestCase):
    def test_example(self):
        found = [below(("wr",), ()), below((), ("wr",)), first_test((), ("wr",)), shows(("own",), "own copy")]
        found += [normal(("rw",)), alike(("rw",), ("gw", "rw")), len(normals())]
        self.assertEqual(found, [True, False, "wr", True, ("gw", "rw"), True, 141])
        expected = ("ss", ((("read", 0, 0), ("read", 1, 0)), (("write", 0, 1),)), (((1, 0), (0, 0)), (1, 0, 0)))
        self.assertEqual(tests()[4], expected)
        with self.assertRaises(BadName):
            shows((), "own")


class Tests(unittest.TestCase):
    def test_as_the_document_has_them(self):
        self.assertEqual(tests(), told_tests())
        self.assertEqual(tuple(name for name, _, _ in tests()), NAMES)

    def test_kinds_of_values(self):
        def numbers(value):
            return sum([numbers(item) for item in value], []) if isinstance(value, tuple) else [value]

        self.assertIs(type(tests()), tuple)
        for test in tests():
            self.assertEqual({type(item) for item in numbers(test)}, {str, int})

    def test_no_test_is_plain(self):
        for name, program, outcome in tests():
            self.assertNotIn(outcome, outcomes(PLAIN, program), name)
            row = row_for(("own",), program, outcome)
            self.assertEqual(told_by(("own",), program, row), outcome)


class Shows(unittest.TestCase):
    def test_against_outcomes(self):
        for design in all_designs():
            for name in NAMES:
                found = shows(design, name)
                self.assertIs(found, name in Shown.names(design), (design, name))

    def test_by_hand(self):
        for name in NAMES:
            self.assertIs(shows((), name), name != "own copy", name)
            self.assertIs(shows(("own",), name), True, name)
            self.assertIs(shows(PLAIN, name), False, name)
            self.assertIs(shows(ALL, name), False, name)
        self.assertEqual([name for name in NAMES if not shows(("rw",), name)], ["rw", "gw", "own copy"])
        self.assertEqual([name for name in NAMES if not shows(("gw",), name)], ["gw", "own copy"])
        self.assertEqual([name for name in NAMES if not shows(("rr",), name)],
                         ["rr", "gr", "own copy", "own rr", "own gr"])
        self.assertEqual([name for name in NAMES if not shows(("own", "rr"), name)], ["rr", "gr"])
        self.assertEqual([name for name in NAMES if not shows(("gr", "own"), name)], ["gr", "gr same"])
        self.assertEqual([name for name in NAMES if not shows(("gr",), name)],
                         ["gr", "gr same", "own copy", "own gr"])
        self.assertEqual([name for name in NAMES if not shows(("own", "wr"), name)], ["wr", "own rr", "own gr"])
        self.assertEqual([name for name in NAMES if not shows(("own", "ww"), name)], ["ww", "own copy"])
        self.assertEqual([name for name in NAMES if not shows(("ss",), name)], ["ss", "gr same", "own copy"])


class Below(unittest.TestCase):
    def test_all_pairs(self):
        for one, other in itertools.product(all_designs(), repeat=2):
            found = below(one, other)
            if found is not compared(one, other):
                self.fail((one, other, found))

    def test_all_pairs_against_outcomes(self):
        for one, other in itertools.product(all_designs(), repeat=2):
            found = all(few <= many for few, many in zip(Shown.by(one), Shown.by(other)))
            if found is not below(one, other):
                self.fail((one, other, found))

    def test_pairs_by_chance_against_outcomes_of_other_programs(self):
        programs = SMALL + any_programs(8, 30, [(3, 2), (2, 2, 1), (4, 2), (3, 3)])
        designs = normals()[::6]
        for program in programs:
            found = {design: frozenset(outcomes(design, program)) for design in designs}
            for one, other in itertools.product(designs, repeat=2):
                if below(one, other):
                    self.assertLessEqual(found[one], found[other], (one, other, program))

    def test_by_hand(self):
        for one, other, expected in [
            ((), (), True), (("rr",), ("rr",), True), (ALL, (), True), ((), ALL, False), (("own",), (), False),
            ((), ("own",), True), (("rr",), ("rw",), False), (("rw",), ("gw",), True), (("gw",), ("rw",), False),
            (("rr",), ("gr",), False), (("ss",), ("gr",), False), (("rr", "ss"), ("gr",), True),
            (("gr",), ("rr", "ss"), False), (("own", "ww"), (), True), (("own", "ww"), ("ww",), True),
            (("own", "wr"), (), False), (("own", "rr", "ww"), ("rr",), False),
            (("own", "rr", "wr", "ww"), ("rr",), True), (("gr", "own", "ww"), ("gr",), False),
            (("gr", "own", "wr", "ww"), ("gr",), True), (("gr", "own", "rr", "ww"), ("ww",), True),
            (ALL, PLAIN, True), (PLAIN, ALL, True),
        ]:
            with self.subTest(one=one, other=other):
                self.assertIs(below(one, other), expected)


class FirstTest(unittest.TestCase):
    def test_all_pairs(self):
        names = {design: Shown.names(design) for design in all_designs()}
        for one, other in itertools.product(all_designs(), repeat=2):
            expected = next((name for name in names[one] if name not in names[other]), None)
            found = first_test(one, other)
            if found != expected or (found is None) is not below(one, other):
                self.fail((one, other, found, expected))

    def test_by_hand(self):
        for name in ("rr", "rw", "wr", "ww", "ss", "gw", "gr"):
            self.assertEqual(first_test((), (name,)), name)
            self.assertIsNone(first_test((name,), ()))
        self.assertEqual(first_test(("rr",), ("gr", "rr")), "gr same")
        self.assertEqual(first_test(("own",), ()), "own copy")
        self.assertEqual(first_test(("own", "rr", "ww"), ("rr", "ww")), "own rr")
        self.assertEqual(first_test(("gr", "own", "ww"), ("gr", "ww")), "own gr")
        self.assertIsNone(first_test(("own", "ww"), ("ww",)))
        self.assertIsNone(first_test((), ()))
        self.assertEqual(first_test((), ALL), "rr")

    def test_every_name_comes(self):
        found = {first_test(one, other) for one in all_designs()[::3] for other in all_designs()}
        self.assertEqual(found, set(NAMES) | {None})


class Normal(unittest.TestCase):
    def test_alike_is_below_both_ways(self):
        for one, other in itertools.product(all_designs(), repeat=2):
            found = alike(one, other)
            if found is not (compared(one, other) and compared(other, one)):
                self.fail((one, other, found))

    def test_alike_exactly_if_the_normal_ones_are_the_same(self):
        for one, other in itertools.product(all_designs(), repeat=2):
            if alike(one, other) is not (normal(one) == normal(other)):
                self.fail((one, other))

    def test_alike_to_its_normal_one(self):
        for design in all_designs():
            found = normal(design)
            self.assertTrue(is_design(found), design)
            self.assertTrue(alike(design, found), design)
            self.assertEqual(normal(found), found)

    def test_each_word_that_it_can_hold(self):
        for design in all_designs():
            family = [other for other in all_designs() if alike(design, other)]
            self.assertEqual(set(normal(design)) - {"own"}, {word for other in family for word in other} - {"own"})
            self.assertEqual("own" in normal(design), all("own" in other for other in family), design)

    def test_against_outcomes(self):
        for design in all_designs():
            self.assertEqual(Shown.by(design), Shown.by(normal(design)), design)

    def test_by_hand(self):
        for design, expected in [
            ((), ()), (("rw",), ("gw", "rw")), (("gw",), ("gw",)), (("rr",), ("rr",)), (("ss",), ("ss",)),
            (("rr", "ss"), ("gr", "rr", "ss")), (("own",), ("own",)), (("own", "ww"), ("ww",)),
            (("own", "wr"), ("own", "wr")), (("own", "rr", "ww"), ("own", "rr", "ww")),
            (("gr", "own", "ww"), ("gr", "own", "ww")), (("gr", "own", "wr", "ww"), ("gr", "wr", "ww")),
            (("own", "rr", "wr", "ww"), ("rr", "wr", "ww")), (ALL, PLAIN), (PLAIN, PLAIN),
            (("rr", "rw", "ss", "wr", "ww"), PLAIN), (("own", "rr", "ss", "ww"), ("gr", "own", "rr", "ss", "ww")),
        ]:
            with self.subTest(design=design):
                self.assertEqual(normal(design), expected)

    def test_normals(self):
        found = normals()
        self.assertIs(type(found), tuple)
        self.assertEqual(len(found), 141)
        self.assertEqual(list(found), sorted({normal(design) for design in all_designs()}))
        self.assertEqual(list(found), [design for design in all_designs() if normal(design) == design])


class WrongArguments(unittest.TestCase):
    NO_DESIGNS = odd_values() + [("rw", "rr"), ("rr", "rr"), ("rx",), ["rr"], ("rr", None), ("rr", 1), PLAIN[::-1]]

    def assert_raises(self, error, function, *arguments):
        with self.subTest(function=function.__name__, arguments=short(arguments)):
            with self.assertRaises(error) as caught:
                function(*arguments)
            self.assertIs(type(caught.exception), error)

    def test_bad_design(self):
        for design in self.NO_DESIGNS:
            for function in (below, alike, first_test):
                self.assert_raises(BadDesign, function, design, ())
                self.assert_raises(BadDesign, function, (), design)
                self.assert_raises(BadDesign, function, design, design)
                self.assert_raises(BadDesign, function, ALL, design)
            self.assert_raises(BadDesign, normal, design)
            self.assert_raises(BadDesign, shows, design, "rr")

    def test_bad_name(self):
        wrong = ["own", "gr  same", "gr_same", "RR", "rr ", " rr", "r", "copy", "same", "gr same own", b"rr", ("rr",)]
        odd = [value for value in odd_values() if value != "rr"]
        for name in wrong + odd + [["rr"], {"rr": 1}, 0, 4, list(NAMES), NAMES, tests()[0], BadName("rr")]:
            self.assert_raises(BadName, shows, (), name)

    def test_first_argument_first(self):
        for name in (None, "own", ["rr"]):
            self.assert_raises(BadDesign, shows, ["rr"], name)
            self.assert_raises(BadDesign, shows, ("ww", "rr"), name)

    def test_arguments_are_kept(self):
        value = ["rr", {"ww": [1]}]
        before = copy.deepcopy(value)
        for function in (below, alike, first_test, shows):
            self.assert_raises(BadDesign, function, value, value)
        self.assert_raises(BadDesign, normal, value)
        self.assert_raises(BadName, shows, (), value)
        self.assertEqual(value, before)


if __name__ == "__main__":
    unittest.main()
