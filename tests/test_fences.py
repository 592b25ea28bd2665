import copy
import itertools
import unittest
from reprlib import repr as short

from pairskept.compares import tests
from pairskept.designs import all_designs
from pairskept.errors import BadDesign, BadPlaces, BadProgram, NotMade
from pairskept.fences import fenced, fewest_fences, is_plain, strange
from pairskept.outcomes import outcomes, plain_outcomes
from tests.values import odd_values
from tests.walks import ALL, FENCE, PLAIN, SMALL, all_hands, any_programs, in_order, some_designs

CROSSED = ((("write", 0, 1), ("read", 0, 1)), (("write", 1, 1), ("read", 0, 0)))
NOTHING = ((0, 0), (0, 0))
FIVE = (FENCE,) * 5
# Each of these words is needed so that all programs are plain.
NEEDED = ("rr", "rw", "ss", "wr", "ww")
LONG = (("write", 0, 1), ("read", 0, 1), ("write", 2, 1), ("read", 1, 2))
# To fill a core up: what it reads is 0 wherever it comes.
UNSEEN = (("read", 1, 2),)


def walked(design, program):
    """By the walk of tests.walks: all outcomes of a program on a design, and its plain ones."""
    found = [(row, hand.told()) for row, hand in all_hands(design, program) if hand.has_ended()]
    return {told for _, told in found}, {told for row, told in found if in_order(row)}


def all_places(program):
    return [(number, place) for number, core in enumerate(program) for place in range(1, len(core))]


def all_tuples(program):
    """Every ascending tuple of places, in the order in which the fewest and then the least comes first."""
    places = all_places(program)
    picks = itertools.product((False, True), repeat=len(places))
    found = [tuple(place for place, taken in zip(places, pick) if taken) for pick in picks]
    return sorted(found, key=lambda some: (len(some), some))


def put(program, places):
    """The program with its fences, put in from behind, whether it is a program or not."""
    cores = [list(core) for core in program]
    for number, place in reversed(places):
        cores[number].insert(place, FENCE)
    return tuple(map(tuple, cores))


def is_no_program(cores):
    return max(map(len, cores)) > 5 or sum(map(len, cores)) > 10


class Example(unittest.TestCase):
    def test_example(self):
        found = [is_plain(("wr",), CROSSED), strange((), CROSSED), fewest_fences((), CROSSED)]
        found.append(fenced(CROSSED, ((0, 1),))[0])
        core = (("write", 0, 1), ("fence",), ("read", 0, 1))
        self.assertEqual(found, [True, (((0, 0), (0, 0)), (1, 1, 0)), ((0, 1), (1, 1)), core])
        with self.assertRaises(BadPlaces):
            fenced(CROSSED, ((0, 0),))


class Plain(unittest.TestCase):
    def assert_told(self, design, program, found, plain):
        with self.subTest(design=design, program=program):
            self.assertIs(is_plain(design, program), found == plain)
            self.assertEqual(strange(design, program), min(found - plain, default=None))

    def test_against_outcomes(self):
        programs = SMALL + any_programs(11, 60, [(3, 3), (4, 2), (2, 2, 2), (4, 4), (3, 3, 3)])
        for at, program in enumerate(programs):
            for design in some_designs(at, 8):
                self.assert_told(design, program, set(outcomes(design, program)), set(plain_outcomes(program)))

    def test_small_programs_on_all_designs(self):
        for program in SMALL:
            if sum(map(len, program)) <= 5:
                plain = set(plain_outcomes(program))
                for design in all_designs():
                    self.assert_told(design, program, set(outcomes(design, program)), plain)

    def test_against_the_walk(self):
        programs = [program for program in SMALL if sum(map(len, program)) <= 5]
        for at, program in enumerate(programs + any_programs(12, 30, [(3, 2), (2, 2, 1), (4, 1)])):
            for design in some_designs(at, 2):
                self.assert_told(design, program, *walked(design, program))

    def test_designs_that_are_plain_for_all_programs(self):
        designs = [design for design in all_designs() if set(NEEDED) <= set(design)]
        self.assertEqual(len(designs), 8)
        for program in SMALL + any_programs(13, 100, [(5,), (3, 3), (4, 4), (5, 2), (3, 3, 2), (2, 2, 2)]):
            for design in designs:
                self.assertIs(is_plain(design, program), True, (design, program))
                self.assertIsNone(strange(design, program), (design, program))

    def test_designs_that_are_not(self):
        for design in all_designs():
            plain = all(is_plain(design, program) for _, program, _ in tests())
            self.assertIs(plain, set(NEEDED) <= set(design), design)

    def test_tests_that_are_shown(self):
        for _, program, outcome in tests():
            self.assertEqual(strange(("own",), program), outcome)
            self.assertIs(is_plain(("own",), program), False)

    def test_least_of_several(self):
        program = ((("read", 0, 0), ("read", 1, 0)), (("write", 0, 1), ("write", 0, 2)))
        self.assertEqual(strange((), program), (((1, 0), (0, 0)), (2, 0, 0)))
        others = [outcome for outcome in outcomes((), program) if outcome not in plain_outcomes(program)]
        self.assertEqual([told[0][0] for told in others], [(1, 0), (2, 0), (2, 1)])

    def test_behind_a_plain_one(self):
        # The least outcome of all is plain here, the greatest too.
        program = ((("read", 0, 0), ("read", 1, 0)), (("write", 0, 1),))
        told = [pairs[0] for pairs, _ in outcomes((), program)]
        self.assertEqual(told, [(0, 0), (0, 1), (1, 0), (1, 1)])
        self.assertEqual(strange((), program), (((1, 0), (0, 0)), (1, 0, 0)))

    def test_by_the_cells_alone(self):
        program = ((("write", 0, 1), ("write", 1, 1)), (("write", 1, 2), ("write", 0, 2)))
        self.assertEqual(strange((), program), (NOTHING, (1, 2, 0)))
        self.assertIsNone(strange(("ww",), program))
        self.assertIs(is_plain(("ww",), program), True)

    def test_nothing_to_do(self):
        for program in (((),), ((), ()), ((), (), ())):
            for design in ((), ("own",), ALL):
                self.assertIs(is_plain(design, program), True)
                self.assertIsNone(strange(design, program))


class Fenced(unittest.TestCase):
    def assert_made(self, program, places, expected):
        found = fenced(program, places)
        self.assertEqual(found, expected)
        self.assertIs(type(found), tuple)
        self.assertEqual({type(core) for core in found}, {tuple})

    def test_no_place(self):
        for program in SMALL + [((FENCE,) * 5, (FENCE,) * 5)]:
            self.assert_made(program, (), program)

    def test_one_place(self):
        first, second, third, fourth = LONG
        self.assert_made((LONG, ()), ((0, 1),), ((first, FENCE, second, third, fourth), ()))
        self.assert_made((LONG, ()), ((0, 2),), ((first, second, FENCE, third, fourth), ()))
        self.assert_made((LONG, ()), ((0, 3),), ((first, second, third, FENCE, fourth), ()))
        self.assert_made(((), LONG), ((1, 2),), ((), (first, second, FENCE, third, fourth)))
        self.assert_made((LONG, LONG), ((1, 3),), (LONG, (first, second, third, FENCE, fourth)))
        self.assert_made(((), (), LONG), ((2, 1),), ((), (), (first, FENCE, second, third, fourth)))

    def test_several_places(self):
        one, two, three = LONG[:3]
        core = (one, two, three)
        self.assert_made((core,), ((0, 1), (0, 2)), ((one, FENCE, two, FENCE, three),))
        self.assert_made((core, core), ((0, 2), (1, 1)), ((one, two, FENCE, three), (one, FENCE, two, three)))
        self.assert_made((LONG, (one, two)), ((0, 3), (1, 1)), (LONG[:3] + (FENCE, LONG[3]), (one, FENCE, two)))

    def test_places_count_as_the_program_had_them(self):
        one, two, three = LONG[:3]
        program = ((one, two, three), (two, one, three))
        made = ((one, FENCE, two, FENCE, three), (two, FENCE, one, FENCE, three))
        self.assert_made(program, ((0, 1), (0, 2), (1, 1), (1, 2)), made)

    def test_all_places(self):
        for program in (CROSSED, (LONG[:3],), (LONG[:3], LONG[:2], ()), (LONG[:2], LONG[1:3], LONG[2:])):
            self.assert_made(program, tuple(all_places(program)), put(program, all_places(program)))

    def test_ahead_of_a_fence(self):
        self.assert_made(((FENCE, FENCE),), ((0, 1),), ((FENCE, FENCE, FENCE),))

    def test_every_tuple_of_places(self):
        for program in SMALL:
            for places in all_tuples(program):
                made = put(program, places)
                if is_no_program(made):
                    with self.assertRaises(NotMade):
                        fenced(program, places)
                else:
                    self.assert_made(program, places, made)

    def test_more_than_five_in_a_core(self):
        self.assert_made((LONG,), ((0, 1),), put((LONG,), ((0, 1),)))
        for places in (((0, 1), (0, 2)), ((0, 1), (0, 3)), ((0, 1), (0, 2), (0, 3))):
            with self.assertRaises(NotMade):
                fenced((LONG,), places)
        for place in range(1, 5):
            with self.assertRaises(NotMade):
                fenced((FIVE,), ((0, place),))
            with self.assertRaises(NotMade):
                fenced(((), (), FIVE), ((2, place),))
        with self.assertRaises(NotMade):
            fenced((CROSSED[0], FIVE), ((0, 1), (1, 1)))
        self.assert_made((CROSSED[0], FIVE), ((0, 1),), put((CROSSED[0], FIVE), ((0, 1),)))

    def test_more_than_ten_in_all(self):
        nine = (LONG[:3], LONG[:3], LONG[:3])
        for place in all_places(nine):
            self.assert_made(nine, (place,), put(nine, (place,)))
        for places in itertools.combinations(all_places(nine), 2):
            with self.assertRaises(NotMade):
                fenced(nine, places)
        ten = (LONG, LONG[:3], LONG[:3])
        self.assert_made(ten, (), ten)
        for place in all_places(ten):
            with self.assertRaises(NotMade):
                fenced(ten, (place,))


class WrongPlaces(unittest.TestCase):
    PROGRAM = (LONG, (), LONG[:1])

    def assert_bad(self, places, program=PROGRAM):
        with self.subTest(places=short(places)), self.assertRaises(BadPlaces) as caught:
            fenced(program, places)
        self.assertIs(type(caught.exception), BadPlaces)

    def test_not_ascending(self):
        self.assert_bad(((0, 2), (0, 1)))
        self.assert_bad(((1, 1), (0, 1)), CROSSED)
        self.assert_bad(((0, 1), (0, 3), (0, 2)))

    def test_not_unlike(self):
        self.assert_bad(((0, 1), (0, 1)))
        self.assert_bad(((0, 1), (0, 2), (0, 2)))
        self.assert_bad(((0, 1),) * 50)

    def test_cores_that_do_not_exist(self):
        for number in (-1, -2, -3, 3, 4, 5, 6, 100, 10 ** 40):
            self.assert_bad(((number, 1),))
        self.assert_bad(((1, 1),), (LONG,))
        self.assert_bad(((0, 1), (2, 1)), CROSSED)

    def test_places_that_do_not_exist(self):
        for place in (-1, -2, -3, 0, 4, 5, 6, 100, 10 ** 40):
            self.assert_bad(((0, place),))
            self.assert_bad(((0, 1), (0, place)))
        self.assert_bad(((0, 0), (0, 1)))
        self.assert_bad(((0, 2),), CROSSED)
        self.assert_bad(((0, 1), (1, 2)), CROSSED)

    def test_cores_with_few_instructions(self):
        for number in (1, 2):
            for place in (-1, 0, 1, 2):
                self.assert_bad(((number, place),))
                self.assert_bad(((0, 1), (number, place)))

    def test_every_pair_of_numbers(self):
        found = []
        for pair in itertools.product(range(-6, 8), repeat=2):
            try:
                fenced(self.PROGRAM, (pair,))
                found.append(pair)
            except BadPlaces:
                pass
        self.assertEqual(found, [(0, 1), (0, 2), (0, 3)])

    def test_true_and_false(self):
        self.assert_bad(((0, True),))
        self.assert_bad(((False, 1),))
        self.assert_bad(((False, True),))
        self.assert_bad(((0, 1), (True, 1)), CROSSED)
        self.assert_bad(True)
        self.assert_bad((True,))

    def test_lists_in_the_place_of_tuples(self):
        self.assert_bad([])
        self.assert_bad([(0, 1)])
        self.assert_bad(([0, 1],))
        self.assert_bad(((0, 1), [0, 2]))
        self.assert_bad([[0, 1]])

    def test_other_forms(self):
        for places in ((0, 1), ((0,),), ((0, 1, 1),), ((),), ("01",), "01", "", {}, {(0, 1): 1}, ((0, "1"),), None, 0,
                       (("0", 1),), ((0, None),), ((None, 1),), (((0, 1),),), ((0, (1,)),), BadPlaces("x"),
                       (BadPlaces("x"),), (LONG,), CROSSED):
            self.assert_bad(places)

    def test_odd_values(self):
        for value in odd_values():
            self.assert_bad(value)
            self.assert_bad((value,))
            self.assert_bad(((0, 1), value))
            self.assert_bad(((0, value),))
            self.assert_bad(((value, 1),))

    def test_ahead_of_not_made(self):
        self.assert_bad(((0, 1), (0, 2), (0, 2)))
        self.assert_bad(((0, 1), (0, 5)), (FIVE,))
        with self.assertRaises(NotMade):
            fenced((FIVE,), ((0, 4),))


class FewestFences(unittest.TestCase):
    def assert_fewest(self, design, program, expected):
        with self.subTest(design=design, program=program):
            if expected is None:
                with self.assertRaises(NotMade):
                    fewest_fences(design, program)
            else:
                found = fewest_fences(design, program)
                self.assertEqual(found, expected)
                self.assertIs(type(found), tuple)

    def assert_same(self, design, program, is_plain_there):
        made = [places for places in all_tuples(program) if not is_no_program(put(program, places))]
        fits = (places for places in made if is_plain_there(design, put(program, places)))
        self.assert_fewest(design, program, next(fits, None))

    def test_plain_programs(self):
        for program in SMALL + [((),), (FIVE, FIVE), (LONG, LONG[:3], LONG[:3])]:
            for design in (PLAIN, ALL, NEEDED):
                self.assert_fewest(design, program, ())
        self.assert_fewest(("wr",), CROSSED, ())
        self.assert_fewest((), (CROSSED[0], ()), ())

    def test_against_all_tuples_of_places(self):
        programs = any_programs(14, 40, [(3, 3), (2, 2, 2), (4, 3), (4, 2, 1), (3, 2, 3), (4, 4), (5, 3)])
        for at, program in enumerate(SMALL + [program for _, program, _ in tests()] + programs):
            for design in some_designs(at, 3):
                self.assert_same(design, program, lambda *made: set(outcomes(*made)) == set(plain_outcomes(made[1])))

    def test_against_the_walk(self):
        def is_plain_walked(design, program):
            found, plain = walked(design, program)
            return found == plain

        for at, program in enumerate(SMALL):
            if sum(map(len, program)) <= 4:
                for design in some_designs(at, 2):
                    self.assert_same(design, program, is_plain_walked)

    def test_one_is_enough(self):
        core = (("write", 0, 1), FENCE, ("read", 0, 1))
        self.assert_fewest((), (core, CROSSED[1]), ((1, 1),))
        self.assert_fewest((), (CROSSED[0], (("write", 1, 1), FENCE, ("read", 0, 0))), ((0, 1),))
        self.assert_fewest((), ((("read", 0, 0), ("read", 1, 0)), (("write", 0, 1),)), ((0, 1),))

    def test_ties(self):
        middle = (("write", 0, 1), ("read", 1, 2), ("read", 0, 1))
        other = (("write", 1, 1), FENCE, ("read", 0, 0))
        for places in (((0, 1),), ((0, 2),)):
            self.assertIs(is_plain((), fenced((middle, other), places)), True)
        self.assert_fewest((), (middle, other), ((0, 1),))
        self.assert_fewest((), (middle, CROSSED[1]), ((0, 1), (1, 1)))
        self.assertIs(is_plain((), fenced((middle, CROSSED[1]), ((0, 2), (1, 1)))), True)
        self.assert_fewest((), (CROSSED[1], middle), ((0, 1), (1, 1)))
        self.assertIs(is_plain((), fenced((CROSSED[1], middle), ((0, 1), (1, 2)))), True)

    def test_the_fewest_and_not_the_least(self):
        program = ((("read", 0, 2), ("read", 1, 1)), (("write", 1, 1), ("write", 2, 1)))
        self.assertLess(((0, 1), (1, 1)), ((1, 1),))
        self.assertIs(is_plain(("rr",), fenced(program, ((0, 1), (1, 1)))), True)
        self.assert_fewest(("rr",), program, ((1, 1),))

    def test_places_behind_those_without_room(self):
        # A fence fits nowhere into the first core, which is no reason to look no further.
        program = (FIVE, (("read", 0, 0), ("read", 1, 0)), (("write", 0, 1),))
        self.assert_fewest((), program, ((1, 1),))
        # Ahead of the two that are taken stands ((0, 1), (0, 2)), with six in a core.
        core = (("write", 0, 1), ("read", 0, 1)) + UNSEEN * 2
        self.assert_fewest((), (core, CROSSED[1]), ((0, 1), (1, 1)))

    def test_no_room_in_a_core(self):
        core = (("write", 0, 1), ("read", 0, 1)) + UNSEEN * 3
        self.assert_fewest((), (core[:4], CROSSED[1]), ((0, 1), (1, 1)))
        for program in ((core, CROSSED[1]), (CROSSED[1], core), (CROSSED[1], (), core)):
            self.assert_fewest((), program, None)
            self.assert_fewest(("wr",), program, ())

    def test_no_room_in_all(self):
        self.assert_fewest((), CROSSED + (UNSEEN * 4,), ((0, 1), (1, 1)))
        self.assert_fewest((), CROSSED + (UNSEEN * 5,), None)
        self.assert_fewest(("wr",), CROSSED + (UNSEEN * 5,), ())
        other = (CROSSED[0], (("write", 1, 1), FENCE, ("read", 0, 0)))
        self.assert_fewest((), other + (UNSEEN * 4,), ((0, 1),))
        self.assert_fewest((), other + (UNSEEN * 5,), None)
        self.assert_fewest(("wr",), other + (UNSEEN * 5,), ())

    def test_up_to_ten_instructions(self):
        one = (("write", 0, 1), ("read", 0, 1)) + UNSEEN * 2
        other = (("write", 1, 1), ("read", 0, 0)) + UNSEEN * 2
        self.assert_fewest((), (one, other), ((0, 1), (1, 1)))
        self.assert_fewest((), (UNSEEN + one[:3], other), ((0, 2), (1, 1)))
        self.assert_fewest((), (one, other + UNSEEN), None)
        self.assert_fewest((), (one + UNSEEN, other + UNSEEN), None)

    def test_each_needed_word(self):
        for name, program, _ in tests()[:5]:
            self.assert_fewest(PLAIN, program, ())
            self.assert_fewest(tuple(word for word in PLAIN if word != name), program, ((0, 1),))


class WrongArguments(unittest.TestCase):
    NO_DESIGNS = odd_values() + [("rw", "rr"), ("rr", "rr"), ("rx",), ["rr"], "rr", ("rr", None), ("rr", 1)]

    def assert_raises(self, error, functions, *arguments, **fields):
        for function in functions:
            with self.subTest(function=function.__name__, arguments=short(arguments)):
                with self.assertRaises(error) as caught:
                    function(*arguments)
                self.assertIs(type(caught.exception), error)
                self.assertEqual(vars(caught.exception), fields)

    def test_bad_design(self):
        for design in self.NO_DESIGNS:
            self.assert_raises(BadDesign, (is_plain, strange, fewest_fences), design, CROSSED)

    def assert_bad_program(self, program, core):
        self.assert_raises(BadProgram, (is_plain, strange, fewest_fences), (), program, core=core)
        self.assert_raises(BadProgram, (fenced,), program, (), core=core)

    def test_bad_program(self):
        for program in ((), ((),) * 4, [()], None, "fence", 1, True, {}):
            self.assert_bad_program(program, None)
        self.assert_bad_program((None,), 0)
        self.assert_bad_program(((), [FENCE]), 1)
        self.assert_bad_program(((), (("read", 0, True),)), 1)
        self.assert_bad_program(((FENCE,) * 6,), 0)
        self.assert_bad_program((FIVE, FIVE, (FENCE,)), 2)
        for value in odd_values():
            self.assert_bad_program((CROSSED[0], (), value), 2)

    def test_first_argument_first(self):
        for program in (None, ((), None), (FIVE, FIVE, FIVE)):
            self.assert_raises(BadDesign, (is_plain, strange, fewest_fences), ["rr"], program)
            self.assert_raises(BadDesign, (is_plain, strange, fewest_fences), ("rr", "rr"), program)
        for places in (None, [(0, 1)], ((0, 0),), ((0, 1), (0, 1))):
            self.assert_raises(BadProgram, (fenced,), None, places, core=None)
            self.assert_raises(BadProgram, (fenced,), ((), None), places, core=1)

    def test_not_made_last(self):
        full = (CROSSED[0] + UNSEEN * 3, CROSSED[1])
        self.assert_raises(NotMade, (fewest_fences,), (), full)
        self.assert_raises(BadDesign, (fewest_fences,), ["rr"], full)
        self.assert_raises(NotMade, (fenced,), full, ((0, 1),))
        self.assert_raises(BadPlaces, (fenced,), full, ((0, 1), (1, 2)))
        self.assert_raises(BadProgram, (fenced,), full + (None,), ((0, 1),), core=2)

    def test_arguments_are_kept(self):
        for arguments in ([["rr"], [[["read", 0, 0]]]], [(), [[["read", 0, 0]]]], [(), ((), [["fence"]])]):
            before = copy.deepcopy(arguments)
            for function in (is_plain, strange, fewest_fences):
                with self.assertRaises((BadDesign, BadProgram)):
                    function(*arguments)
            self.assertEqual(arguments, before)
        for arguments in ([[[["fence"]]], [[0, 1]]], [CROSSED, [[0, 1]]], [CROSSED, ([0, 1], {})]):
            before = copy.deepcopy(arguments)
            with self.assertRaises((BadProgram, BadPlaces)):
                fenced(*arguments)
            self.assertEqual(arguments, before)


if __name__ == "__main__":
    unittest.main()
