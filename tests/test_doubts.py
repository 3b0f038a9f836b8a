"""Point 19: which signs to cut deeper, and how little wear leaves a text not sure."""

import itertools
import random
import unittest

from tests.plain import ALL, ASTRAY, BOOK, LINE, NOTHING, ONLY_EMPTY, TWELVE
from tests.plain import bad_books, bad_counts, check_kinds, cycle, plain_after, plain_least_alike, plain_sum, plain_texts
from tests.plain import some_books, strings, told
from tests.things import CHAIN, EXAMPLE, LETTERS, RING, TWO_PARTS, WORN
from tests.things import bad_strs, bad_wears, plain_steps, some_wears
from wornstones.doubts import best_cuts, doubt, doubt_row, enough_cuts, first_cuts, weakest
from wornstones.errors import BadBook, BadCount, BadText, BadWear, NotOf

BOTH_GO = (("a", "."), ("b", "."))
NAMED = [BOOK, NOTHING, ONLY_EMPTY, ALL, ASTRAY, LINE, cycle(3, (1,)), (2, (), (0, 1))]
WEARS = [(), EXAMPLE, CHAIN, RING, TWO_PARTS, BOTH_GO, (("b", "a"),)] + some_wears(25)
SMALL = some_books(20, most=3, letters="abce", seed=19)
BOOKS = NAMED + SMALL
TWO = (1, ((0, "a", 0), (0, "b", 0)), (0,))


def plain_cut(wear, signs):
    """The wear with these signs cut deeper."""
    return tuple([pair for pair in wear if pair[0] not in signs])


def some_cases(many):
    """As many books and wears, the same ones in each run."""
    chance = random.Random(20)
    return [(BOOK, EXAMPLE), (ALL, RING)] + [(chance.choice(BOOKS), chance.choice(WEARS)) for _ in range(many)]


def plain_doubt(book, wear, text):
    """A tuple of what doubt and doubt_row tell, by trying all rows and all other texts."""
    steps = plain_steps(wear)
    others = [other for other in plain_texts(book, len(text)) if other != text]
    found = []
    ways = [[worn for worn in WORN if (sign, worn) in steps] for sign in text]
    for row in map("".join, itertools.product(*ways)):
        near = [other for other in others if plain_sum(steps, other, row) is not None]
        if near:
            found.append((plain_sum(steps, text, row), row, near[0]))
    if not found:
        return (None, None)
    least = min(found)
    return (least[0], least[1:])


class KindsTest(unittest.TestCase):
    def test_in_the_order_of_the_parameters(self):
        first = [(BadBook, bad_books()), (BadWear, bad_wears())]
        for function in (best_cuts, enough_cuts, first_cuts):
            check_kinds(self, function, [BOOK, EXAMPLE], first)
        for function in (doubt, doubt_row):
            check_kinds(self, function, [BOOK, EXAMPLE, "ac"], first + [(BadText, bad_strs(LETTERS))])
        check_kinds(self, weakest, [BOOK, EXAMPLE, 2], first + [(BadCount, bad_counts(0, 24))])

    def test_not_of(self):
        for book, text in ((BOOK, "a"), (BOOK, "ab"), (BOOK, "c"), (NOTHING, ""), (NOTHING, "a"), (ONLY_EMPTY, "a"),
                           (ASTRAY, "ae"), (LINE, "da"), (cycle(5, (0,)), "a" * 24)):
            for function in (doubt, doubt_row):
                with self.assertRaises(NotOf):
                    function(book, EXAMPLE, text)
                with self.assertRaises(BadWear):
                    function(book, None, text)
                with self.assertRaises(BadText):
                    function(book, EXAMPLE, text + "?")
        for text in strings(2):
            if plain_after(BOOK, text) not in BOOK[2]:
                with self.assertRaises(NotOf):
                    doubt(BOOK, EXAMPLE, text)


class CutsTest(unittest.TestCase):
    def test_the_example(self):
        self.assertEqual(told(best_cuts, BOOK, EXAMPLE), (1, ["a", "b", "c", "d", "e", "f"]))
        self.assertEqual(told(enough_cuts, BOOK, EXAMPLE), 2)
        self.assertEqual(told(first_cuts, BOOK, EXAMPLE), ("b", "c"))

    def test_nothing_to_cut(self):
        for book in BOOKS + [TWELVE]:
            self.assertEqual(told(best_cuts, book, ()), (None, list(LETTERS)))
            self.assertEqual(told(enough_cuts, book, ()), 0)
            self.assertEqual(told(first_cuts, book, ()), ())
        for book in (NOTHING, ONLY_EMPTY, cycle(3, (1,))):
            self.assertEqual(told(best_cuts, book, CHAIN), (None, list(LETTERS)))
            self.assertEqual(told(enough_cuts, book, CHAIN), 0)
            self.assertEqual(told(first_cuts, book, CHAIN), ())

    def test_none_is_the_greatest(self):
        self.assertEqual(told(best_cuts, TWO, BOTH_GO), (None, ["a", "b"]))
        self.assertEqual(told(first_cuts, TWO, BOTH_GO), ("a",))
        self.assertEqual(told(enough_cuts, TWO, BOTH_GO), 1)
        self.assertEqual(told(best_cuts, TWO, (("a", "b"), ("b", "c"))), (None, ["a"]))
        self.assertEqual(told(best_cuts, TWO, (("b", "d"), ("d", "a"), ("e", "a"))), (None, ["b", "d"]))
        self.assertEqual(told(first_cuts, TWO, (("b", "d"), ("d", "a"), ("e", "a"))), ("b",))

    def test_the_greatest_of_several(self):
        # Whichever of them is cut deeper, the other one still comes to it.
        wear = (("a", "b"), ("b", "a"))
        self.assertEqual(told(best_cuts, TWO, wear), (1, list(LETTERS)))
        wear = (("a", "b"), ("b", "a"), ("c", "a"))
        self.assertEqual(told(first_cuts, TWO, wear), ("a", "b"))
        wear = (("a", "."), ("a", "b"), ("b", "."))
        self.assertEqual(told(best_cuts, TWO, wear), (None, ["a"]))
        wear = (("a", "b"), ("a", "c"), ("b", "c"), ("b", "d"), ("d", "a"))
        self.assertEqual(told(best_cuts, TWO, wear), (2, ["a"]))

    def test_several_signs_that_have_to_be_cut(self):
        ring = CHAIN[:5] + (("f", "a"),)
        self.assertEqual(told(enough_cuts, ALL, ring), 6)
        self.assertEqual(told(first_cuts, ALL, ring), tuple(LETTERS))
        gone = tuple((sign, ".") for sign in LETTERS)
        self.assertEqual(told(enough_cuts, ALL, gone), 5)
        self.assertEqual(told(first_cuts, ALL, gone), ("a", "b", "c", "d", "e"))
        self.assertEqual(told(best_cuts, ALL, gone), (2, list(LETTERS)))
        self.assertEqual(told(first_cuts, ALL, TWO_PARTS), ("a", "b", "d"))
        self.assertEqual(told(first_cuts, ALL, (("c", "f"), ("d", "e"), ("f", "b"))), ("c", "d", "f"))

    def test_as_worked_out_plainly(self):
        for book, wear in some_cases(50):
            with self.subTest(book=book, wear=wear):
                told_by = [plain_least_alike(book, plain_cut(wear, sign)) for sign in LETTERS]
                most = None if None in told_by else max(told_by)
                best = [sign for sign, number in zip(LETTERS, told_by) if number == most]
                self.assertEqual(told(best_cuts, book, wear), (most, best))
                first = next(signs for many in range(7) for signs in itertools.combinations(LETTERS, many)
                             if plain_least_alike(book, plain_cut(wear, signs)) is None)
                self.assertEqual(told(first_cuts, book, wear), first)
                self.assertEqual(told(enough_cuts, book, wear), len(first))

    def test_twelve_rooms(self):
        ring = CHAIN[:5] + (("f", "a"),)
        self.assertEqual(told(best_cuts, TWELVE, ring)[0],
                         max(plain_least_alike(TWELVE, plain_cut(ring, sign)) for sign in LETTERS))
        self.assertEqual(told(enough_cuts, TWELVE, ring), len(told(first_cuts, TWELVE, ring)))


class DoubtTest(unittest.TestCase):
    def test_the_book_of_the_example(self):
        self.assertEqual(told(doubt, BOOK, EXAMPLE, "aa"), 0)
        self.assertEqual(told(doubt_row, BOOK, EXAMPLE, "aa"), ("aa", "ac"))
        self.assertEqual(told(doubt, BOOK, EXAMPLE, "ac"), 0)
        self.assertEqual(told(doubt_row, BOOK, EXAMPLE, "ac"), ("ac", "bc"))
        self.assertEqual(told(doubt, BOOK, EXAMPLE, "bc"), 1)
        self.assertEqual(told(doubt_row, BOOK, EXAMPLE, "bc"), ("ac", "ac"))
        self.assertEqual(told(weakest, BOOK, EXAMPLE, 2), (0, "aa"))

    def test_none(self):
        for book, wear, text in ((BOOK, (), "aa"), (BOOK, EXAMPLE, ""), (ONLY_EMPTY, CHAIN, ""), (cycle(3, (1,)), CHAIN, "a"),
                                 (LINE, EXAMPLE, "dab"), (ALL, EXAMPLE, "d"), (ALL, (), "f" * 24)):
            self.assertIsNone(told(doubt, book, wear, text))
            self.assertIsNone(told(doubt_row, book, wear, text))

    def test_nothing(self):
        # Another text comes to this one, which need not wear at all.
        self.assertEqual(told(doubt, LINE, (("e", "a"),), "dab"), 0)
        self.assertEqual(told(doubt_row, LINE, (("e", "a"),), "dab"), ("dab", "deb"))
        self.assertEqual(told(doubt, LINE, (("e", "a"),), "deb"), 1)
        self.assertEqual(told(doubt_row, LINE, (("e", "a"),), "deb"), ("dab", "dab"))
        # However many steps the other text needs.
        self.assertEqual(told(doubt, (1, ((0, "a", 0), (0, "f", 0)), (0,)), CHAIN, "f"), 0)
        self.assertEqual(told(doubt, (1, ((0, "a", 0), (0, "f", 0)), (0,)), CHAIN, "a"), 5)
        self.assertEqual(told(doubt_row, (1, ((0, "a", 0), (0, "f", 0)), (0,)), CHAIN, "a"), ("f", "f"))

    def test_the_first_row_and_the_first_other_text(self):
        self.assertEqual(told(doubt_row, ALL, (("a", "."), ("a", "b"), ("c", "."), ("f", "b")), "aa"), (".a", "ca"))
        self.assertEqual(told(doubt_row, ALL, (("a", "e"), ("c", "e"), ("b", "d"), ("f", "d"))[:2], "aa"), ("ae", "ac"))
        self.assertEqual(told(doubt_row, ALL, (("b", "a"), ("c", "a"), ("d", "."), ("e", ".")), "aa"), ("aa", "ab"))
        self.assertEqual(told(doubt_row, ALL, (("b", "a"), ("c", "a")), "ba"), ("ba", "bb"))
        self.assertEqual(told(doubt_row, ALL, (("b", "a"), ("c", "b")), "cb"), ("cb", "cc"))
        # A text may be both less and greater than others that look like its row.
        self.assertEqual(told(doubt_row, ALL, (("a", "b"), ("c", "b")), "b"), ("b", "a"))

    def test_as_worked_out_plainly(self):
        found = 0
        for book, wear in some_cases(120):
            for length in range(4):
                texts = plain_texts(book, length)
                for text in texts[:: len(texts) // 6 + 1] if len(texts) < 70 else []:
                    least, row = plain_doubt(book, wear, text)
                    with self.subTest(book=book, wear=wear, text=text):
                        self.assertEqual(told(doubt, book, wear, text), least)
                        self.assertEqual(told(doubt_row, book, wear, text), row)
                        found += least is not None and least > 0
        self.assertGreater(found, 60)

    def test_twenty_four_signs(self):
        self.assertEqual(told(doubt, BOOK, EXAMPLE, "bc" * 12), 1)
        self.assertEqual(told(doubt_row, BOOK, EXAMPLE, "bc" * 12), ("ac" + "bc" * 11, "ac" + "bc" * 11))
        self.assertEqual(told(doubt, BOOK, EXAMPLE, "ac" * 12), 0)
        self.assertEqual(told(doubt_row, BOOK, EXAMPLE, "ac" * 12), ("ac" * 12, "ac" * 11 + "bc"))
        self.assertEqual(told(doubt_row, ALL, CHAIN, "a" * 24), ("a" * 23 + "b", "a" * 23 + "b"))
        self.assertIsNone(told(doubt, ALL, TWO_PARTS[2:], "a" * 24))
        self.assertEqual(told(doubt, ALL, TWO_PARTS[2:], "a" * 23 + "c"), 0)
        self.assertEqual(told(doubt_row, ALL, TWO_PARTS[2:], "a" * 23 + "c"), ("a" * 23 + "c", "a" * 23 + "d"))
        self.assertEqual(told(doubt_row, ALL, TWO_PARTS[2:], "d" + "a" * 23), ("c" + "a" * 23, "c" + "a" * 23))
        # Both texts differ at each place, so all of them have to wear.
        book = (3, ((0, "a", 1), (0, "b", 2), (1, "a", 1), (2, "b", 2)), (1, 2))
        self.assertEqual(told(doubt, book, BOTH_GO, "a" * 24), 24)
        self.assertEqual(told(doubt_row, book, BOTH_GO, "b" * 24), ("." * 24, "a" * 24))
        self.assertEqual(told(doubt, book, (("a", "c"), ("c", "b")), "a" * 24), 48)
        self.assertEqual(told(doubt_row, book, (("a", "c"), ("c", "b")), "a" * 24), ("b" * 24, "b" * 24))


class WeakestTest(unittest.TestCase):
    def test_none(self):
        for book, wear, count in ((NOTHING, CHAIN, 0), (NOTHING, CHAIN, 24), (ONLY_EMPTY, CHAIN, 0), (ALL, (), 5),
                                  (BOOK, EXAMPLE, 1), (BOOK, EXAMPLE, 0), (BOOK, EXAMPLE, 23), (cycle(2, (0,)), CHAIN, 24),
                                  (LINE, EXAMPLE, 3)):
            self.assertIsNone(told(weakest, book, wear, count))

    def test_ordinary_ones(self):
        self.assertEqual(told(weakest, LINE, (("e", "a"),), 3), (0, "dab"))
        self.assertEqual(told(weakest, LINE, (("a", "e"),), 3), (0, "deb"))
        self.assertEqual(told(weakest, LINE, (("a", "f"), ("e", "f")), 3), (1, "dab"))
        self.assertEqual(told(weakest, LINE, (("a", "c"), ("c", "f"), ("e", "f")), 3), (1, "deb"))
        self.assertEqual(told(weakest, ALL, (("d", "e"),), 2), (0, "ae"))

    def test_as_worked_out_plainly(self):
        found = 0
        for book, wear in some_cases(60):
            for count in range(3):
                texts = plain_texts(book, count)
                if len(texts) < 40:
                    sums = [(plain_doubt(book, wear, text)[0], text) for text in texts]
                    sums = [(least, text) for least, text in sums if least is not None]
                    with self.subTest(book=book, wear=wear, count=count):
                        self.assertEqual(told(weakest, book, wear, count), min(sums, default=None))
                        found += bool(sums)
        self.assertGreater(found, 20)

    def test_twenty_four_signs(self):
        self.assertEqual(told(weakest, BOOK, EXAMPLE, 24), (0, "a" * 24))
        self.assertEqual(told(weakest, ALL, CHAIN, 24), (0, "a" * 23 + "b"))
        self.assertEqual(told(weakest, ALL, (("d", "e"),), 24), (0, "a" * 23 + "e"))
        book = (3, ((0, "a", 1), (0, "b", 2), (1, "a", 1), (2, "b", 2)), (1, 2))
        self.assertEqual(told(weakest, book, BOTH_GO, 24), (24, "a" * 24))
        self.assertEqual(told(weakest, book, (("a", "c"), ("b", "d"), ("d", "c")), 24), (24, "a" * 24))
        self.assertEqual(told(weakest, book, (("a", "d"), ("b", "c"), ("d", "c")), 24), (24, "b" * 24))

    def test_what_doubt_tells(self):
        for wear in (CHAIN, RING, TWO_PARTS, EXAMPLE):
            for count in (3, 8, 24):
                least, text = told(weakest, TWELVE, wear, count)
                self.assertEqual(len(text), count)
                self.assertEqual(doubt(TWELVE, wear, text), least)


if __name__ == "__main__":
    unittest.main()
