"""Points 2, 4, 5 and 6: signs, wears, steps, what two signs have in common, classes."""

import itertools
import unittest

from tests.things import CHAIN, EXAMPLE, LETTERS, Odd, PAIRS, RING, SEEN, TWENTY, TWO_PARTS, WORN
from tests.things import bad_signs, bad_wears, other_kinds, plain_steps, some_wears
from wornstones.errors import BadSign, BadWear
from wornstones.wears import classes, comes_from, comes_to, common, cut_deeper, is_wear, steps, wears_apart

WEARS = some_wears(120)


class IsWearTest(unittest.TestCase):
    def test_wears(self):
        for wear in WEARS + [(pair,) for pair in PAIRS]:
            with self.subTest(wear=wear):
                self.assertIs(is_wear(wear), True)

    def test_the_empty_one_and_twenty_tuples(self):
        self.assertIs(is_wear(()), True)
        self.assertEqual(len(TWENTY), 20)
        self.assertIs(is_wear(TWENTY), True)
        self.assertIs(is_wear(PAIRS[-20:]), True)
        self.assertIs(is_wear(thing=EXAMPLE), True)

    def test_twenty_one_tuples(self):
        self.assertIs(is_wear(PAIRS[:21]), False)
        self.assertIs(is_wear(PAIRS[-21:]), False)

    def test_any_other_object(self):
        for number, thing in enumerate(bad_wears()):
            with self.subTest(number=number):
                self.assertIs(is_wear(thing), False)

    def test_the_dot_is_least_in_the_order(self):
        self.assertIs(is_wear((("a", "."), ("a", "b"), ("b", "."), ("b", "a"))), True)
        self.assertIs(is_wear((("a", "b"), ("a", "."))), False)
        self.assertIs(is_wear((("b", "."), ("a", "b"))), False)


class BadWearTest(unittest.TestCase):
    """BadWear by each function, ahead of what else is wrong with the later arguments."""

    def test_bad_wear(self):
        for number, thing in enumerate(bad_wears()):
            with self.subTest(number=number):
                self.check(thing)

    def check(self, thing):
        for sign in ("a", "?", None, 3, Odd()):
            for function in (comes_to, comes_from, cut_deeper):
                with self.assertRaises(BadWear):
                    function(thing, sign)
            for function in (steps, common):
                with self.assertRaises(BadWear):
                    function(thing, sign, "a")
                with self.assertRaises(BadWear):
                    function(thing, "a", sign)
        with self.assertRaises(BadWear):
            classes(thing)
        for other in ((), EXAMPLE, thing, None):
            with self.assertRaises(BadWear):
                wears_apart(thing, other)
        with self.assertRaises(BadWear):
            wears_apart((), thing)


class StepsTest(unittest.TestCase):
    def test_the_example(self):
        self.assertEqual(steps(EXAMPLE, "b", "a"), 1)
        self.assertEqual(steps(EXAMPLE, "b", "."), 2)
        self.assertEqual(steps(EXAMPLE, "a", "."), 1)
        self.assertIsNone(steps(EXAMPLE, "a", "b"))
        self.assertIsNone(steps(EXAMPLE, "b", "c"))
        self.assertIsNone(steps(EXAMPLE, "d", "."))

    def test_a_chain(self):
        for one in range(6):
            for other in range(6):
                told = steps(CHAIN, LETTERS[one], LETTERS[other])
                self.assertEqual(told, other - one if other >= one else None)
            self.assertEqual(steps(CHAIN, LETTERS[one], "."), 6 - one)

    def test_a_ring(self):
        self.assertEqual([steps(RING, "a", other) for other in "abc"], [0, 1, 2])
        self.assertEqual([steps(RING, "b", other) for other in "abc"], [2, 0, 1])
        self.assertEqual([steps(RING, "c", other) for other in "abc"], [1, 2, 0])
        self.assertEqual([steps(RING, "a", other) for other in "def."], [None] * 4)

    def test_two_parts(self):
        self.assertEqual([steps(TWO_PARTS, "a", other) for other in WORN], [None, 0, 1] + [None] * 4)
        self.assertEqual([steps(TWO_PARTS, "d", other) for other in WORN], [2, None, None, 1, 0, None, None])

    def test_a_shorter_way_counts(self):
        self.assertEqual(steps((("a", "b"), ("a", "c"), ("b", "c")), "a", "c"), 1)
        self.assertEqual(steps((("a", "b"), ("a", "e"), ("b", "c"), ("c", "d"), ("e", "d")), "a", "d"), 2)

    def test_itself_and_broken_off(self):
        for wear in WEARS:
            for sign in WORN:
                self.assertEqual(steps(wear, sign, sign), 0)
                self.assertEqual(steps(wear, sign, "?"), 0)

    def test_a_dot_comes_to_nothing_else(self):
        for wear in WEARS:
            for sign in LETTERS:
                self.assertIsNone(steps(wear, ".", sign))

    def test_no_wear_at_all(self):
        for one, other in itertools.product(WORN, WORN):
            self.assertEqual(steps((), one, other), 0 if one == other else None)

    def test_as_worked_out_plainly(self):
        for wear in WEARS:
            told = plain_steps(wear)
            for one, other in itertools.product(WORN, WORN):
                with self.subTest(wear=wear, one=one, other=other):
                    self.assertEqual(steps(wear, one, other), told.get((one, other)))

    def test_bad_sign(self):
        for number, sign in enumerate(bad_signs(WORN)):
            with self.subTest(number=number):
                for other in ("a", "?", "g", None):
                    with self.assertRaises(BadSign):
                        steps(EXAMPLE, sign, other)
        for number, sign in enumerate(bad_signs(SEEN)):
            with self.subTest(number=number, place="other"):
                for one in ("a", "."):
                    with self.assertRaises(BadSign):
                        steps(EXAMPLE, one, sign)

    def test_names(self):
        self.assertEqual(steps(wear=EXAMPLE, one="c", other="."), 2)
        self.assertEqual(steps(other="a", one="c", wear=EXAMPLE), 1)


class ComesTest(unittest.TestCase):
    def test_comes_to(self):
        self.assertEqual(comes_to(EXAMPLE, "b"), (".", "a", "b"))
        self.assertEqual(comes_to(EXAMPLE, "a"), (".", "a"))
        self.assertEqual(comes_to(EXAMPLE, "d"), ("d",))
        self.assertEqual(comes_to(EXAMPLE, "."), (".",))
        self.assertEqual(comes_to(CHAIN, "a"), tuple(WORN))
        self.assertEqual(comes_to(CHAIN, "d"), (".", "d", "e", "f"))
        self.assertEqual(comes_to(RING, "b"), ("a", "b", "c"))
        self.assertEqual(comes_to(wear=RING, sign="c"), ("a", "b", "c"))

    def test_comes_from(self):
        self.assertEqual(comes_from(EXAMPLE, "a"), ("a", "b", "c"))
        self.assertEqual(comes_from(EXAMPLE, "b"), ("b",))
        self.assertEqual(comes_from(EXAMPLE, "."), ("a", "b", "c"))
        self.assertEqual(comes_from(EXAMPLE, "?"), tuple(LETTERS))
        self.assertEqual(comes_from(RING, "."), ())
        self.assertEqual(comes_from((), "."), ())
        self.assertEqual(comes_from((), "?"), tuple(LETTERS))
        self.assertEqual(comes_from(CHAIN, "c"), ("a", "b", "c"))
        self.assertEqual(comes_from(wear=CHAIN, seen="."), tuple(LETTERS))

    def test_as_worked_out_plainly(self):
        for wear in WEARS:
            told = plain_steps(wear)
            for sign in WORN:
                behind = tuple([worn for worn in WORN if (sign, worn) in told])
                ahead = tuple([letter for letter in LETTERS if (letter, sign) in told])
                with self.subTest(wear=wear, sign=sign):
                    self.assertEqual(comes_to(wear, sign), behind)
                    self.assertEqual(comes_from(wear, sign), ahead)

    def test_they_are_tuples(self):
        self.assertIs(type(comes_to(CHAIN, "a")), tuple)
        self.assertIs(type(comes_from(CHAIN, "a")), tuple)
        self.assertIs(type(comes_from(CHAIN, "?")), tuple)

    def test_bad_sign(self):
        for number, sign in enumerate(bad_signs(WORN)):
            with self.subTest(number=number):
                with self.assertRaises(BadSign):
                    comes_to(EXAMPLE, sign)
        for number, sign in enumerate(bad_signs(SEEN)):
            with self.subTest(number=number, function="comes_from"):
                with self.assertRaises(BadSign):
                    comes_from(EXAMPLE, sign)


class CommonTest(unittest.TestCase):
    def test_least_sums(self):
        self.assertEqual(common(EXAMPLE, "b", "c"), (2, "a"))
        self.assertEqual(common(EXAMPLE, "a", "c"), (1, "a"))
        self.assertEqual(common(CHAIN, "a", "f"), (5, "f"))
        self.assertEqual(common(RING, "a", "b"), (1, "b"))
        self.assertEqual(common(RING, "a", "c"), (1, "a"))
        self.assertIsNone(common(EXAMPLE, "a", "d"))
        self.assertIsNone(common(TWO_PARTS, "a", "c"))
        self.assertIsNone(common((), "a", "b"))

    def test_the_least_worn_sign_of_several(self):
        both = (("a", "."), ("a", "c"), ("a", "f"), ("b", "."), ("b", "c"), ("b", "f"))
        self.assertEqual(common(both, "a", "b"), (2, "."))
        self.assertEqual(common(tuple([pair for pair in both if pair[1] != "."]), "a", "b"), (2, "c"))
        self.assertEqual(common((("c", "d"), ("d", "c")), "d", "c"), (1, "c"))
        # The least sum is ahead of the least worn sign.
        self.assertEqual(common((("a", "."), ("b", "."), ("b", "a")), "a", "b"), (1, "a"))
        self.assertEqual(common((("c", "d"), ("d", "."), ("d", "c"), ("d", "e")), "c", "d"), (1, "c"))

    def test_a_sign_and_itself(self):
        for wear in WEARS:
            for sign in LETTERS:
                self.assertEqual(common(wear, sign, sign), (0, sign))

    def test_as_worked_out_plainly(self):
        for wear in WEARS:
            told = plain_steps(wear)
            for one, other in itertools.product(LETTERS, LETTERS):
                sums = [(told[(one, worn)] + told[(other, worn)], worn)
                        for worn in WORN if (one, worn) in told and (other, worn) in told]
                with self.subTest(wear=wear, one=one, other=other):
                    self.assertEqual(common(wear, one, other), min(sums) if sums else None)
                    self.assertEqual(common(wear, other, one), common(wear, one, other))

    def test_bad_sign(self):
        for number, sign in enumerate(bad_signs(LETTERS)):
            with self.subTest(number=number):
                with self.assertRaises(BadSign):
                    common(EXAMPLE, sign, "a")
                with self.assertRaises(BadSign):
                    common(EXAMPLE, "a", sign)
                with self.assertRaises(BadSign):
                    common(EXAMPLE, sign, sign)

    def test_names(self):
        self.assertEqual(common(wear=EXAMPLE, one="c", other="b"), (2, "a"))


class WearsApartTest(unittest.TestCase):
    def test_alike_wears_written_otherwise(self):
        for wear in WEARS:
            self.assertIsNone(wears_apart(wear, tuple(list(wear))))
        self.assertIsNone(wears_apart((), ()))

    def test_the_least_tuple(self):
        self.assertEqual(wears_apart((), EXAMPLE), ("a", "."))
        self.assertEqual(wears_apart(EXAMPLE, (("a", "."), ("b", "a"))), ("c", "."))
        self.assertEqual(wears_apart(EXAMPLE, (("a", "."), ("b", "."), ("b", "a"), ("c", "a"))), ("b", "."))
        self.assertEqual(wears_apart(RING, (("a", "b"), ("b", "c"))), ("b", "a"))
        self.assertEqual(wears_apart(RING, (("a", "c"), ("b", "a"), ("c", "b"))), ("a", "b"))
        self.assertEqual(wears_apart((("f", "e"),), ()), ("f", "e"))
        self.assertEqual(wears_apart((("a", "b"), ("b", "c")), (("a", "b"), ("a", "c"), ("b", "c"))), ("a", "c"))

    def test_as_worked_out_plainly(self):
        for one, other in zip(WEARS, WEARS[1:] + WEARS[:1]):
            first = plain_steps(one)
            second = plain_steps(other)
            apart = [(sign, worn) for sign in LETTERS for worn in WORN
                     if first.get((sign, worn)) != second.get((sign, worn))]
            with self.subTest(one=one, other=other):
                self.assertEqual(wears_apart(one, other), min(apart) if apart else None)
                self.assertEqual(wears_apart(other, one), wears_apart(one, other))

    def test_names(self):
        self.assertEqual(wears_apart(wear=(), other=EXAMPLE), ("a", "."))


class CutDeeperTest(unittest.TestCase):
    def test_without_the_tuples_of_the_sign(self):
        self.assertEqual(cut_deeper(EXAMPLE, "b"), (("a", "."), ("c", "a")))
        self.assertEqual(cut_deeper(EXAMPLE, "a"), (("b", "a"), ("c", "a")))
        self.assertEqual(cut_deeper(EXAMPLE, "d"), EXAMPLE)
        self.assertEqual(cut_deeper((), "a"), ())
        self.assertEqual(cut_deeper((("a", "b"), ("a", "c")), "a"), ())
        self.assertEqual(cut_deeper(wear=RING, sign="c"), (("a", "b"), ("b", "c")))

    def test_it_is_a_wear(self):
        for wear in WEARS:
            for sign in LETTERS:
                told = cut_deeper(wear, sign)
                self.assertIs(is_wear(told), True)
                self.assertEqual(told, tuple(filter(lambda pair: pair[0] != sign, wear)))
                self.assertEqual(comes_to(told, sign), (sign,))

    def test_bad_sign(self):
        for number, sign in enumerate(bad_signs(LETTERS)):
            with self.subTest(number=number):
                with self.assertRaises(BadSign):
                    cut_deeper(EXAMPLE, sign)


class ClassesTest(unittest.TestCase):
    def test_one_and_several(self):
        alone = [(sign,) for sign in LETTERS]
        self.assertEqual(classes(()), alone)
        self.assertEqual(classes(EXAMPLE), alone)
        self.assertEqual(classes(CHAIN), alone)
        self.assertEqual(classes(RING), [("a", "b", "c"), ("d",), ("e",), ("f",)])
        self.assertEqual(classes(TWO_PARTS), [("a", "b"), ("c",), ("d",), ("e",), ("f",)])
        self.assertEqual(classes(CHAIN[:5] + (("f", "a"),)), [tuple(LETTERS)])
        apart = (("a", "f"), ("b", "d"), ("d", "b"), ("f", "a"))
        self.assertEqual(classes(wear=apart), [("a", "f"), ("b", "d"), ("c",), ("e",)])

    def test_as_worked_out_plainly(self):
        for wear in WEARS:
            told = plain_steps(wear)
            groups = {tuple([other for other in LETTERS if (one, other) in told and (other, one) in told])
                      for one in LETTERS}
            with self.subTest(wear=wear):
                self.assertEqual(classes(wear), sorted(groups))
                self.assertEqual(sorted(itertools.chain.from_iterable(classes(wear))), list(LETTERS))

    def test_the_list_is_new(self):
        told = classes(RING)
        self.assertIs(type(told), list)
        self.assertEqual({type(group) for group in told}, {tuple})
        told.clear()
        self.assertEqual(classes(RING), [("a", "b", "c"), ("d",), ("e",), ("f",)])


class EqualCallsTest(unittest.TestCase):
    def test_equal_calls_return_equal_results(self):
        for wear in WEARS[:20]:
            like = tuple([(one, other) for one, other in wear])
            self.assertEqual(classes(wear), classes(like))
            for one, other in itertools.product(LETTERS, LETTERS):
                self.assertEqual(steps(wear, one, other), steps(like, one, other))
                self.assertEqual(common(wear, one, other), common(like, one, other))
                self.assertEqual(comes_to(wear, one), comes_to(like, one))
                self.assertEqual(comes_from(wear, one), comes_from(like, one))
                self.assertEqual(cut_deeper(wear, one), cut_deeper(like, one))
            self.assertEqual(wear, like)

    def test_is_wear_changes_nothing(self):
        for thing in ([("a", "b")], {"a": "b"}, (["a", "b"],)):
            like = repr(thing)
            is_wear(thing)
            self.assertEqual(repr(thing), like)

    def test_integers_and_truth_are_told_apart(self):
        # steps tells integers, is_wear tells True or False: 0 and False are equal in Python.
        self.assertIs(type(steps(EXAMPLE, "a", "a")), int)
        self.assertIs(type(steps(EXAMPLE, "a", "?")), int)
        self.assertIs(type(common(EXAMPLE, "a", "a")[0]), int)
        for thing in other_kinds() + [EXAMPLE]:
            self.assertIs(type(is_wear(thing)), bool)


if __name__ == "__main__":
    unittest.main()
