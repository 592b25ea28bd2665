import copy
import itertools
import unittest
from reprlib import repr as short

from pairskept.designs import all_designs, is_design, must_be_done
from pairskept.errors import BadCore, BadDesign, BadPlace
from tests.values import odd_values

WORDS = ("gr", "gw", "own", "rr", "rw", "ss", "wr", "ww")
FENCE = ("fence",)


def without(word):
    return tuple(one for one in WORDS if one != word)


class Designs(unittest.TestCase):
    def test_designs(self):
        for value in ((), ("gr",), ("own",), ("rr", "rw"), ("gr", "ww"), ("rw", "wr", "ww"), WORDS):
            with self.subTest(value=value):
                self.assertIs(is_design(value), True)

    def test_no_designs(self):
        wrong = [
            ("rw", "rr"), ("ww", "gr"), WORDS[::-1], ("rr", "rr"), ("gr", "gr", "gw"), ("rx",), ("rr", "sw"), ("",),
            ("RR",), ("rr ",), ["rr"], ["rr", "rw"], [], "", "rr", "rr rw", (None,), ("rr", None), ("rr", 1), (1, "rr"),
            (True,), (("rr",),), {}, {"rr": 1}, {"rr"}, None, 0, True, WORDS + ("zz",),
        ]
        for value in wrong + odd_values():
            with self.subTest(value=short(value)):
                self.assertIs(is_design(value), False)

    def test_unlike_words_in_their_order_only(self):
        pairs = itertools.product(WORDS, repeat=2)
        self.assertEqual([pair for pair in pairs if is_design(pair)], list(itertools.combinations(WORDS, 2)))
        triples = itertools.product(WORDS, repeat=3)
        self.assertEqual([three for three in triples if is_design(three)], list(itertools.combinations(WORDS, 3)))

    def test_all_designs(self):
        found = all_designs()
        self.assertIsInstance(found, tuple)
        self.assertEqual(len(found), 256)
        self.assertEqual(list(found), sorted(set(found)))
        self.assertTrue(all(is_design(design) for design in found))
        self.assertEqual(found[:3], ((), ("gr",), ("gr", "gw")))
        self.assertEqual(found[-1], ("ww",))
        self.assertIn(WORDS, found)


class Example(unittest.TestCase):
    def test_example(self):
        core = (("read", 0, 0), ("guard", 0, 1), ("write", 1, 1))
        found = [must_be_done((), core, 0, 1), must_be_done((), core, 1, 2), must_be_done(("gw",), core, 1, 2)]
        self.assertEqual(found + [len(all_designs()), is_design(("rw", "rr"))], [True, False, True, 256, False])
        with self.assertRaises(BadPlace):
            must_be_done((), core, 1, 1)


class Kept(unittest.TestCase):
    """The first sentence of point 4."""

    def assert_always(self, core, first=0, second=None):
        self.assert_if(lambda design: True, core, first, second)

    def assert_never(self, core, first=0, second=None):
        self.assert_if(lambda design: False, core, first, second)

    def assert_with(self, word, core, first=0, second=None):
        self.assert_if(lambda design: word in design, core, first, second)

    def assert_if(self, expected, core, first, second):
        second = len(core) - 1 if second is None else second
        for design in all_designs():
            with self.subTest(design=design, core=core, first=first, second=second):
                self.assertIs(must_be_done(design, core, first, second), expected(design))

    def test_fence(self):
        for other in (("read", 0, 0), ("write", 0, 1), ("copy", 1, 1), ("guard", 0, 0), FENCE):
            self.assert_always((FENCE, other))
            self.assert_always((other, FENCE))
            self.assert_always((other, ("write", 2, 2), FENCE))

    def test_a_fence_between_is_no_fence_at_either_end(self):
        self.assert_never((("write", 0, 1), FENCE, ("guard", 0, 0)))
        self.assert_with("wr", (("write", 0, 1), FENCE, ("read", 0, 1)))

    def test_guards(self):
        self.assert_always((("guard", 0, 1), ("guard", 0, 1)))
        self.assert_always((("guard", 0, 1), ("guard", 1, 0)))
        self.assert_always((("guard", 0, 1), ("write", 0, 0), ("guard", 1, 0)))

    def test_last_read_into_what_is_used(self):
        for later in (("copy", 1, 0), ("guard", 0, 3)):
            self.assert_if(lambda design: True, (("read", 0, 0), later), 0, 1)
            self.assert_always((("read", 1, 2), ("read", 0, 0), ("write", 2, 5), later), 1)
            self.assert_always((("read", 0, 2), ("read", 0, 0), later), 1)

    def test_another_read_in_between(self):
        self.assert_never((("read", 0, 0), ("read", 0, 1), ("guard", 0, 3)))
        self.assert_with("rw", (("read", 0, 0), ("read", 0, 1), ("copy", 2, 0)))
        self.assert_always((("read", 0, 0), ("read", 1, 1), ("guard", 0, 3)))
        self.assert_always((("read", 0, 0), ("read", 1, 1), ("copy", 2, 0)))

    def test_a_read_behind_counts_not(self):
        self.assert_always((("read", 0, 0), ("guard", 0, 3), ("read", 0, 1)), 0, 1)

    def test_read_into_the_other_one(self):
        self.assert_never((("read", 1, 0), ("guard", 0, 3)))
        self.assert_with("rw", (("read", 1, 0), ("copy", 2, 0)))

    def test_copy_takes_no_place_of_a_read(self):
        self.assert_with("ww", (("copy", 1, 0), ("copy", 2, 0)))
        self.assert_never((("copy", 1, 0), ("guard", 0, 0)))

    def test_unlike_cells(self):
        self.assert_with("rr", (("read", 0, 0), ("read", 1, 1)))
        self.assert_with("rr", (("read", 0, 0), ("read", 0, 2)))
        self.assert_with("rw", (("read", 0, 0), ("write", 1, 0)))
        self.assert_with("rw", (("read", 0, 0), ("copy", 1, 1)))
        self.assert_with("wr", (("write", 1, 0), ("read", 0, 0)))
        self.assert_with("wr", (("copy", 1, 0), ("read", 0, 0)))
        for one, other in itertools.product(((("write", 0, 4)), ("copy", 0, 0)), (("write", 1, 4), ("copy", 1, 0))):
            self.assert_with("ww", (one, other))

    def test_far_places_count_as_near_ones(self):
        self.assert_with("rr", (("read", 0, 0), ("write", 2, 1), ("guard", 1, 1), ("read", 1, 1)))
        self.assert_with("ww", (("read", 0, 0), ("write", 2, 1), ("read", 1, 1), ("write", 0, 1), ("read", 0, 2)), 1, 3)

    def test_both_read_one_cell(self):
        self.assert_with("ss", (("read", 0, 0), ("read", 1, 0)))
        self.assert_with("ss", (("read", 0, 2), ("read", 0, 2)))
        self.assert_with("ss", (("read", 0, 2), ("write", 2, 1), ("read", 0, 2)))

    def test_later_one_writes_the_cell(self):
        for earlier in (("read", 0, 1), ("write", 1, 1), ("copy", 1, 1)):
            for later in (("write", 1, 1), ("copy", 1, 1), ("write", 1, 2)):
                self.assert_always((earlier, later))

    def test_later_one_reads_what_the_earlier_one_writes(self):
        self.assert_if(lambda design: "own" not in design, (("write", 1, 1), ("read", 0, 1)), 0, 1)
        self.assert_if(lambda design: "own" not in design, (("copy", 1, 1), ("read", 0, 1)), 0, 1)
        self.assert_if(lambda design: "own" not in design, (("write", 1, 1), ("write", 1, 2), ("read", 0, 1)), 0, 2)

    def test_behind_a_guard(self):
        self.assert_with("gr", (("guard", 0, 1), ("read", 0, 0)))
        self.assert_with("gw", (("guard", 0, 1), ("write", 0, 1)))
        self.assert_with("gw", (("guard", 0, 1), ("copy", 0, 0)))
        self.assert_with("gr", (("guard", 0, 1), ("write", 0, 1), ("read", 0, 0)))

    def test_ahead_of_a_guard(self):
        self.assert_never((("write", 0, 1), ("guard", 0, 1)))
        self.assert_never((("copy", 0, 0), ("guard", 0, 1)))
        self.assert_never((("read", 1, 0), ("guard", 0, 1)))

    def test_every_pair(self):
        core = [("read", r, x) for r in (0, 1) for x in (0, 1, 2)] + [("write", x, 1) for x in (0, 1, 2)]
        core += [("copy", x, r) for x in (0, 1, 2) for r in (0, 1)] + [("guard", r, 1) for r in (0, 1)] + [FENCE]
        for pair in itertools.product(core, repeat=2):
            for design in all_designs():
                self.assertIs(must_be_done(design, pair, 0, 1), pair_must(design, *pair), (design, pair))


def pair_must(design, one, two):
    """Point 4 for a core of two instructions, clause by clause; the second sentence needs three."""
    reads = [one[0] == "read", two[0] == "read"]
    writes = [one[0] in ("write", "copy"), two[0] in ("write", "copy")]
    cells = [{"read": 2, "write": 1, "copy": 1}.get(item[0]) for item in (one, two)]
    cells = [None if at is None else item[at] for at, item in zip(cells, (one, two))]
    same = None not in cells and cells[0] == cells[1]
    unlike = None not in cells and cells[0] != cells[1]
    return (
        FENCE in (one, two)
        or (one[0] == "guard" and two[0] == "guard")
        or (reads[0] and two[0] == "copy" and two[2] == one[1])
        or (reads[0] and two[0] == "guard" and two[1] == one[1])
        or (unlike and reads[0] and reads[1] and "rr" in design)
        or (unlike and reads[0] and writes[1] and "rw" in design)
        or (unlike and writes[0] and reads[1] and "wr" in design)
        or (unlike and writes[0] and writes[1] and "ww" in design)
        or (same and reads[0] and reads[1] and "ss" in design)
        or (same and writes[1])
        or (same and writes[0] and reads[1] and "own" not in design)
        or (one[0] == "guard" and reads[1] and "gr" in design)
        or (one[0] == "guard" and writes[1] and "gw" in design)
    )


class Copied(unittest.TestCase):
    """The second sentence of point 4, on designs with "own" that keep no two reads in order."""

    def assert_waits(self, core, first, second):
        self.assertIs(must_be_done(("own",), core, first, second), True)
        self.assertIs(must_be_done(("gr", "gw", "own", "rw", "wr", "ww"), core, first, second), True)
        self.assertIs(must_be_done((), core, first, second), False)

    def assert_free(self, core, first, second):
        self.assertIs(must_be_done(("own",), core, first, second), False)
        self.assertIs(must_be_done(("gr", "gw", "own", "rw", "wr", "ww"), core, first, second), False)

    def test_reading_waits_for_what_is_copied(self):
        self.assert_waits((("read", 0, 0), ("copy", 1, 0), ("read", 1, 1)), 0, 2)
        self.assert_waits((("read", 1, 0), ("copy", 2, 1), ("read", 1, 2)), 0, 2)
        self.assert_waits((("read", 0, 0), ("copy", 1, 0), ("read", 0, 1)), 0, 2)

    def test_reading_of_the_very_cell(self):
        core = (("read", 0, 1), ("copy", 1, 0), ("read", 1, 1))
        self.assert_waits(core, 0, 2)
        self.assertIs(must_be_done(("ss",), core, 0, 2), True)

    def test_every_design(self):
        core = (("read", 0, 0), ("copy", 1, 0), ("read", 1, 1))
        for design in all_designs():
            self.assertIs(must_be_done(design, core, 0, 2), "own" in design or "rr" in design, design)
            self.assertIs(must_be_done(design, core, 1, 2), "own" not in design, design)

    def test_far_places(self):
        core = (("read", 0, 0), ("read", 1, 2), ("copy", 1, 0), ("write", 0, 3), ("read", 1, 1))
        self.assert_waits(core, 0, 4)
        self.assert_free(core, 1, 4)
        core = (("read", 0, 0), ("guard", 1, 2), ("copy", 1, 0), ("guard", 1, 2), ("read", 1, 1))
        self.assert_waits(core, 0, 4)

    def test_another_writing_in_between(self):
        self.assert_free((("read", 0, 0), ("copy", 1, 0), ("write", 1, 1), ("read", 1, 1)), 0, 3)
        self.assert_free((("read", 0, 0), ("copy", 1, 0), ("copy", 1, 1), ("read", 1, 1)), 0, 3)
        core = (("read", 0, 0), ("read", 1, 0), ("copy", 1, 0), ("copy", 1, 1), ("read", 1, 1))
        self.assert_waits(core, 1, 4)
        self.assert_free(core, 0, 4)

    def test_another_writing_elsewhere(self):
        self.assert_waits((("write", 1, 1), ("read", 0, 0), ("copy", 1, 0), ("read", 1, 1)), 1, 3)
        self.assert_waits((("read", 0, 0), ("copy", 1, 0), ("copy", 2, 1), ("read", 1, 1)), 0, 3)
        self.assert_waits((("read", 0, 0), ("copy", 1, 0), ("read", 1, 1), ("write", 1, 5)), 0, 2)

    def test_another_read_ahead_of_the_copy(self):
        core = (("read", 0, 0), ("read", 0, 2), ("copy", 1, 0), ("read", 1, 1))
        self.assert_waits(core, 1, 3)
        self.assert_free(core, 0, 3)

    def test_another_read_behind_the_copy(self):
        core = (("read", 0, 0), ("copy", 1, 0), ("read", 0, 2), ("read", 1, 1))
        self.assert_waits(core, 0, 3)
        self.assert_free(core, 2, 3)

    def test_read_into_the_other_one(self):
        core = (("read", 0, 0), ("read", 1, 2), ("copy", 1, 0), ("read", 1, 1))
        self.assert_waits(core, 0, 3)
        self.assert_free(core, 1, 3)

    def test_no_read_ahead_of_the_copy(self):
        self.assert_free((("read", 1, 0), ("copy", 1, 0), ("read", 1, 1)), 0, 2)
        self.assert_free((("copy", 1, 0), ("read", 0, 2), ("read", 1, 1)), 1, 2)

    def test_no_copy(self):
        self.assert_free((("read", 0, 0), ("write", 1, 0), ("read", 1, 1)), 0, 2)
        self.assert_free((("read", 0, 0), ("read", 1, 1)), 0, 1)

    def test_reading_of_another_cell(self):
        self.assert_free((("read", 0, 0), ("copy", 1, 0), ("read", 1, 2)), 0, 2)

    def test_later_one_is_no_reading(self):
        for later in (("copy", 2, 1), ("copy", 1, 1), ("write", 1, 5), ("guard", 1, 1)):
            with self.subTest(later=later):
                core = (("read", 0, 0), ("copy", 1, 0), later)
                self.assertIs(must_be_done(("own",), core, 0, 2), False)

    def test_copy_of_a_copied_word(self):
        core = (("read", 0, 0), ("copy", 1, 0), ("read", 1, 1), ("copy", 2, 1), ("read", 0, 2))
        self.assert_waits(core, 0, 2)
        self.assert_waits(core, 2, 4)
        self.assert_free(core, 0, 4)


class WrongArguments(unittest.TestCase):
    CORE = (("read", 0, 0), ("guard", 0, 1), ("write", 1, 1))

    def assert_raises(self, error, *arguments):
        with self.subTest(arguments=short(arguments)):
            with self.assertRaises(error) as caught:
                must_be_done(*arguments)
            self.assertIs(type(caught.exception), error)

    def test_bad_design(self):
        for design in odd_values() + [("rw", "rr"), ("rr", "rr"), ("rx",), ["rr"], "rr", ("rr", None), ("rr", 1)]:
            self.assert_raises(BadDesign, design, self.CORE, 0, 1)

    def test_bad_core(self):
        wrong = [(FENCE,) * 6, [FENCE, FENCE], FENCE, (FENCE, None), (FENCE, ["fence"]), (FENCE, ("write", 3, 0))]
        for core in wrong + odd_values():
            self.assert_raises(BadCore, (), core, 0, 1)

    def test_five_instructions_are_a_core(self):
        self.assertIs(must_be_done((), (FENCE,) * 5, 0, 4), True)

    def test_bad_place(self):
        places = [(0, 0), (1, 1), (2, 2), (1, 0), (2, 1), (-1, 0), (-2, -1), (-1, 2), (0, -1), (0, 3), (2, 3), (3, 4)]
        places += [(None, 1), (0, None), ("0", 1), (0, "1"), (False, 1), (0, True), (False, True), (1, (2,)), ([], {})]
        for first, second in places:
            self.assert_raises(BadPlace, (), self.CORE, first, second)
        for value in odd_values():
            self.assert_raises(BadPlace, (), self.CORE, value, 2)
            self.assert_raises(BadPlace, (), self.CORE, 0, value)

    def test_no_places_in_short_cores(self):
        self.assert_raises(BadPlace, (), (), 0, 1)
        self.assert_raises(BadPlace, (), (), 0, 0)
        self.assert_raises(BadPlace, (), (FENCE,), 0, 1)

    def test_every_pair_of_numbers(self):
        good = []
        for first, second in itertools.product(range(-2, 6), repeat=2):
            try:
                must_be_done((), self.CORE, first, second)
                good.append((first, second))
            except BadPlace:
                pass
        self.assertEqual(good, [(0, 1), (0, 2), (1, 2)])

    def test_first_argument_first(self):
        self.assert_raises(BadDesign, ["rr"], [FENCE], 1, 0)
        self.assert_raises(BadDesign, None, None, None, None)
        self.assert_raises(BadDesign, ("rx",), self.CORE, 1, 0)
        self.assert_raises(BadDesign, ("rx",), (FENCE,) * 6, 0, 1)
        self.assert_raises(BadCore, (), (FENCE,) * 6, 1, 0)
        self.assert_raises(BadCore, (), None, None, None)
        self.assert_raises(BadPlace, (), self.CORE, True, None)

    def test_arguments_are_kept(self):
        for arguments in ([["rr"], [FENCE], [0], {}], [(), [FENCE, [1]], 0, 1], [(), self.CORE, [0], {"a": [1]}]):
            before = copy.deepcopy(arguments)
            with self.assertRaises((BadDesign, BadCore, BadPlace)):
                must_be_done(*arguments)
            self.assertEqual(arguments, before)


if __name__ == "__main__":
    unittest.main()
