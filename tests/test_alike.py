"""Points 16, 17 and 18: texts that look alike, safe papers, pairs, and rows that part two books."""

import itertools
import math
import random
import unittest

from tests.plain import ALL, ASTRAY, BOOK, LINE, NOTHING, ONLY_EMPTY, TWELVE
from tests.plain import bad_books, bad_counts, check_kinds, cycle, plain_common, plain_least_alike, plain_readings
from tests.plain import plain_states, plain_sum, plain_texts, shuffled, some_books, strings, told
from tests.things import CHAIN, EXAMPLE, LETTERS, Odd, RING, TWO_PARTS, WORN
from tests.things import bad_wears, nested, other_kinds, plain_steps, some_wears
from wornstones.alike import alike_holds, alike_texts, least_alike, pairs_alike, row_apart, safe_paper, safe_paper_holds
from wornstones.books import is_of
from wornstones.errors import BadBook, BadCount, BadWear, TooMany

BOTH_GO = (("a", "."), ("b", "."))
NAMED = [BOOK, NOTHING, ONLY_EMPTY, ALL, ASTRAY, LINE, cycle(3, (1,)), (2, (), (0, 1))]
WEARS = [(), EXAMPLE, CHAIN, RING, TWO_PARTS, BOTH_GO, (("b", "a"),)] + some_wears(20)
BOOKS = NAMED + some_books(16, most=4) + some_books(16, most=3, letters="abc", seed=9)
# Behind a there is an end behind 4, 9, 14 .. signs, behind b behind 5, 11, 17 .. signs.
FAR = (12, tuple(sorted([(0, "a", 1), (0, "b", 6)] + [(room, "c", room % 5 + 1) for room in range(1, 6)]
                        + [(room, "c", (room - 5) % 6 + 6) for room in range(6, 12)])), (5, 11))


def some_cases(many):
    """As many books and wears, the same ones in each run."""
    chance = random.Random(16)
    return [(BOOK, EXAMPLE), (FAR, BOTH_GO), (FAR, EXAMPLE)] + [
        (chance.choice(BOOKS), chance.choice(WEARS)) for _ in range(many)]


CASES = some_cases(150)


def plain_pairs(book, other, wear):
    """A dict of the pairs of sets of rooms to which rows without "?" lead, with the first of the shortest rows."""
    steps = plain_steps(wear)
    start = (frozenset([0]), frozenset([0]))
    found = {start: ""}
    queue = [start]
    for pair in queue:
        for worn in WORN:
            after = tuple([frozenset([behind for room, sign, behind in doors if room in some and (sign, worn) in steps])
                           for doors, some in ((book[1], pair[0]), (other[1], pair[1]))])
            if after not in found:
                found[after] = found[pair] + worn
                queue.append(after)
    return found


class KindsTest(unittest.TestCase):
    def test_in_the_order_of_the_parameters(self):
        books = (BadBook, bad_books())
        wears = (BadWear, bad_wears())
        for function in (least_alike, alike_texts, safe_paper):
            check_kinds(self, function, [BOOK, EXAMPLE], [books, wears])
        counts = [(BadCount, bad_counts(0, 24)), (BadCount, bad_counts(0, 100))]
        check_kinds(self, pairs_alike, [BOOK, EXAMPLE, 2, 3], [books, wears] + counts)
        check_kinds(self, row_apart, [BOOK, LINE, EXAMPLE], [books, books, wears])
        for function in (alike_holds, safe_paper_holds):
            for thing in (None, Odd(), [], ("aa", "ac", "aa")):
                for book in bad_books()[::5]:
                    with self.assertRaises(BadBook):
                        function(book, Odd(), 1, thing)
                for wear in bad_wears()[::5]:
                    with self.assertRaises(BadWear):
                        function(BOOK, wear, 1, thing)

    def test_both_integers_of_pairs_alike(self):
        for count, most in ((25, 0), (-1, 0), (0, 101), (0, -1), (24, True), (False, 3), (2, None), ("2", 3)):
            with self.assertRaises(BadCount):
                pairs_alike(BOOK, EXAMPLE, count, most)


class LeastAlikeTest(unittest.TestCase):
    def test_the_example(self):
        self.assertEqual(told(least_alike, BOOK, EXAMPLE), 1)
        self.assertEqual(told(alike_texts, BOOK, EXAMPLE)[:2] in (("aa", "ac"), ("aa", "ba"), ("ac", "bc")), True)

    def test_wears_without_steps(self):
        for book in BOOKS + [TWELVE]:
            self.assertIsNone(told(least_alike, book, ()))
            self.assertIsNone(told(alike_texts, book, ()))

    def test_chains_and_rings_and_parts(self):
        two = (2, ((0, "a", 1), (0, "d", 1)), (1,))
        self.assertEqual(told(least_alike, two, CHAIN), 3)
        self.assertEqual(told(alike_texts, two, CHAIN), ("a", "d", "d"))
        self.assertEqual(told(least_alike, two, CHAIN[:2] + CHAIN[3:]), None)
        self.assertEqual(told(least_alike, two, (("a", "."), ("b", "a"), ("c", "b"), ("d", "c"))), 3)
        self.assertEqual(told(least_alike, (2, ((0, "a", 1), (0, "b", 1)), (1,)), RING), 1)
        self.assertEqual(told(alike_texts, (2, ((0, "a", 1), (0, "c", 1)), (1,)), RING), ("a", "c", "a"))
        self.assertIsNone(told(least_alike, (2, ((0, "a", 1), (0, "c", 1)), (1,)), TWO_PARTS))
        self.assertEqual(told(least_alike, (2, ((0, "a", 1), (0, "b", 1), (0, "c", 1)), (1,)), TWO_PARTS), 1)
        # Nothing comes to "." here.
        self.assertEqual(told(alike_texts, (2, ((0, "a", 1), (0, "b", 1)), (1,)), (("a", "f"), ("b", "f"))),
                         ("a", "b", "f"))

    def test_books_in_which_no_two_look_alike(self):
        for book in (NOTHING, ONLY_EMPTY, cycle(5, (1, 3)), (3, ((0, "a", 1), (0, "b", 2), (1, "a", 2)), (2,))):
            self.assertIsNone(told(least_alike, book, CHAIN))
            self.assertIsNone(told(alike_texts, book, CHAIN))
        # Two texts look alike only if both lead to ends behind as many signs.
        self.assertIsNone(told(least_alike, FAR[:2] + ((1, 7),), EXAMPLE[:1]))
        self.assertIsNone(told(least_alike, FAR, TWO_PARTS[2:]))

    def test_the_cheaper_of_two_ways(self):
        # One place costs three steps, two places one step each.
        book = (5, ((0, "a", 1), (0, "d", 1), (0, "e", 2), (0, "f", 3), (2, "e", 4), (3, "f", 4)), (1, 4))
        wear = (("a", "b"), ("b", "c"), ("c", "d"), ("e", "f"))
        self.assertEqual(told(least_alike, book, wear), 2)
        self.assertEqual(told(alike_texts, book, wear), ("ee", "ff", "ff"))
        self.assertEqual(told(least_alike, book, wear[1:]), 2)
        self.assertEqual(told(least_alike, book, wear[:3]), 3)
        self.assertIsNone(told(least_alike, book, wear[1:3]))

    def test_as_worked_out_plainly(self):
        found = 0
        for book, wear in CASES:
            least = plain_least_alike(book, wear)
            with self.subTest(book=book, wear=wear):
                self.assertEqual(told(least_alike, book, wear), least)
                self.check_texts(book, wear, least)
                found += least is not None
        self.assertGreater(found, 40)

    def check_texts(self, book, wear, least):
        texts = told(alike_texts, book, wear)
        if least is None:
            self.assertIsNone(texts)
            return
        self.assertEqual([type(part) for part in texts], [str, str, str])
        one, other, row = texts
        self.assertLess(one, other)
        self.assertLessEqual(max(len(part) for part in texts), 288)
        self.assertNotIn("?", row)
        steps = plain_steps(wear)
        self.assertEqual(plain_sum(steps, one, row) + plain_sum(steps, other, row), least)
        self.assertIs(alike_holds(book, wear, least, texts), True)
        self.assertIs(alike_holds(book, wear, least - 1, texts), False)

    def test_by_all_pairs_of_short_texts(self):
        for book, wear in CASES[:60]:
            common = plain_common(wear)
            sums = []
            for length in range(4):
                texts = plain_texts(book, length)[:60]
                for one, other in itertools.combinations(texts, 2):
                    if all(pair in common for pair in zip(one, other)):
                        sums.append(sum(common[pair] for pair in zip(one, other)))
            with self.subTest(book=book, wear=wear):
                if sums:
                    self.assertLessEqual(least_alike(book, wear), min(sums))

    def test_texts_longer_than_twenty_four_signs(self):
        self.assertEqual(told(least_alike, FAR, BOTH_GO), 2)
        self.assertEqual(told(alike_texts, FAR, BOTH_GO), ("a" + "c" * 29, "b" + "c" * 29, "." + "c" * 29))
        self.assertEqual(told(least_alike, FAR, EXAMPLE), 1)
        self.assertEqual(told(alike_texts, FAR, EXAMPLE), ("a" + "c" * 29, "b" + "c" * 29, "a" + "c" * 29))
        self.assertIs(is_of(FAR, "acccc"), True)

    def test_twelve_rooms(self):
        for wear in (CHAIN, RING, EXAMPLE, TWO_PARTS):
            least = told(least_alike, TWELVE, wear)
            self.check_texts(TWELVE, wear, least)
            self.assertEqual(least, plain_least_alike(TWELVE, wear))


class AlikeHoldsTest(unittest.TestCase):
    def test_ordinary_ones(self):
        self.assertIs(told(alike_holds, BOOK, EXAMPLE, 1, ("aa", "ac", "aa")), True)
        self.assertIs(told(alike_holds, BOOK, EXAMPLE, 1, ("ac", "aa", "aa")), True)
        self.assertIs(told(alike_holds, BOOK, EXAMPLE, 0, ("aa", "ac", "aa")), False)
        self.assertIs(told(alike_holds, BOOK, EXAMPLE, 3, ("aa", "ac", "a.")), True)
        self.assertIs(told(alike_holds, BOOK, EXAMPLE, 2, ("aa", "ac", "a.")), False)
        self.assertIs(told(alike_holds, BOOK, EXAMPLE, 10 ** 59, ("aa", "ac", "a.")), True)
        self.assertIs(told(alike_holds, BOOK, EXAMPLE, -10 ** 59, ("aa", "ac", "a.")), False)

    def test_sums_just_at_and_below(self):
        for book, wear in CASES[:40]:
            common = plain_common(wear)
            steps = plain_steps(wear)
            for one, other in itertools.permutations(plain_texts(book, 2)[:8], 2):
                for row in strings(2, WORN)[::3]:
                    sums = [plain_sum(steps, one, row), plain_sum(steps, other, row)]
                    if None in sums:
                        self.assertIs(alike_holds(book, wear, 99, (one, other, row)), False)
                    else:
                        self.assertIs(alike_holds(book, wear, sum(sums), (one, other, row)), True)
                        self.assertIs(alike_holds(book, wear, sum(sums) - 1, (one, other, row)), False)
                        self.assertGreaterEqual(sum(sums), sum(common[pair] for pair in zip(one, other)))

    def test_one_thing_wrong(self):
        for thing in (("aa", "aa", "aa"), ("aa", "ab", "aa"), ("aa", "ac", "ab"), ("aa", "ac", "?a"), ("aa", "ac", "a?"),
                      ("aa", "ac", "??"), ("aa", "ac", "a"), ("aa", "ac", "aaa"), ("aa", "acac", "aa"),
                      ("aaaa", "ac", "aa"), ("aa", "acac", "aaaa"), ("", "", ""), ("a", "c", "a"), ("aa", "cc", "aa"),
                      ("aa", "a.", "aa"), ("a?", "ac", "aa"), ("aa", "ac"), ("aa", "ac", "aa", "aa"), ["aa", "ac", "aa"],
                      ("ca", "aa", "aa"), ("aa", "ca", "aa"), ("aa", "ac", ["a", "a"]), ("aa", ("a", "c"), "aa"), ("aa", "ac", "ag"), ("aa", "aC", "aa"),
                      ("aa", "ac", "a\n"), "aaa", ("a", "b", "c"), ("aa", "ac", None), ("aa", None, "aa"),
                      (None, "ac", "aa"), (Odd(), "ac", "aa"), ("aa", Odd(), "aa"), ("aa", "ac", Odd()),
                      (b"aa", b"ac", b"aa"), (0, 1, 0), nested(90), (nested(90), "ac", "aa")):
            self.assertIs(alike_holds(BOOK, EXAMPLE, 99, thing), False)
        for thing in other_kinds() + ["", (), [], [("aa", "ac", "aa")]]:
            self.assertIs(alike_holds(BOOK, EXAMPLE, 99, thing), False)

    def test_four_hundred_signs_and_one_more(self):
        for many in (25, 288, 399, 400):
            self.assertIs(told(alike_holds, ALL, EXAMPLE, 1, ("a" * many, "a" * (many - 1) + "b", "a" * many)), True)
        for many in (401, 402, 5000, 10000):
            self.assertIs(told(alike_holds, ALL, EXAMPLE, 99, ("a" * many, "a" * (many - 1) + "b", "a" * many)), False)
        self.assertIs(told(alike_holds, BOOK, EXAMPLE, 200, ("ac" * 200, "aa" * 200, "aa" * 200)), True)
        self.assertIs(told(alike_holds, BOOK, EXAMPLE, 199, ("ac" * 200, "aa" * 200, "aa" * 200)), False)
        self.assertIs(told(alike_holds, BOOK, EXAMPLE, 10 ** 9, ("ac" * 201, "aa" * 201, "aa" * 201)), False)
        self.assertIs(told(alike_holds, BOOK, EXAMPLE, 999, ("ac" * 200, "aa" * 199, "aa" * 200)), False)
        self.assertIs(told(alike_holds, BOOK, EXAMPLE, 2000, ("bc" * 200, "aa" * 200, "." * 400)), True)


class SafePaperTest(unittest.TestCase):
    def test_the_example(self):
        self.assertEqual(told(safe_paper, BOOK, EXAMPLE),
                         [(0, 0, False, 0), (0, 0, True, 1), (1, 1, False, 0), (1, 1, True, 1)])
        self.assertEqual(told(safe_paper, BOOK, ()), [(0, 0, False, 0), (1, 1, False, 0)])
        self.assertEqual(told(safe_paper, NOTHING, CHAIN), [(0, 0, False, 0)])
        self.assertEqual(told(safe_paper, LINE, (("a", "e"),)),
                         [(0, 0, False, 0), (1, 1, False, 0), (2, 2, False, 0), (2, 2, True, 1), (3, 3, False, 0),
                          (3, 3, True, 1)])

    def test_as_worked_out_plainly(self):
        for book, wear in CASES:
            with self.subTest(book=book, wear=wear):
                paper = told(safe_paper, book, wear)
                sums = plain_states(book, wear)
                self.assertEqual(paper, sorted([state + (number,) for state, number in sums.items()]))
                self.assertEqual({tuple([type(part) for part in entry]) for entry in paper}, {(int, int, bool, int)})

    def test_for_which_integers_it_holds(self):
        for book, wear in CASES + [(TWELVE, CHAIN), (TWELVE, TWO_PARTS)]:
            least = least_alike(book, wear)
            paper = safe_paper(book, wear)
            with self.subTest(book=book, wear=wear):
                for most in [-10 ** 59, -1, 0, 1, 2, 3, 500, 10 ** 59] + ([least - 1, least] if least else []):
                    self.assertIs(told(safe_paper_holds, book, wear, most, paper), least is None or most < least)

    def test_another_order(self):
        for book, wear in CASES[:30]:
            paper = safe_paper(book, wear)
            most = 50 if least_alike(book, wear) is None else least_alike(book, wear) - 1
            for seed in range(4):
                mixed = list(paper)
                random.Random(seed).shuffle(mixed)
                self.assertIs(told(safe_paper_holds, book, wear, most, mixed), True)

    def test_one_row_left_out_or_twice_or_raised(self):
        for book, wear in CASES[:40]:
            paper = safe_paper(book, wear)
            most = 50 if least_alike(book, wear) is None else least_alike(book, wear) - 1
            for at, entry in enumerate(paper):
                raised = entry[:3] + (entry[3] + 1,)
                for changed in (paper[:at] + paper[at + 1:], paper + [entry], paper + [raised],
                                paper[:at] + [raised] + paper[at + 1:]):
                    self.assertIs(safe_paper_holds(book, wear, most, changed), False)

    def test_lowered(self):
        # Lower numbers hold where they go on along all doors, and are above the integer at ends.
        paper = [(0, 0, False, -3), (0, 0, True, 1), (1, 1, False, -3), (1, 1, True, -2)]
        self.assertIs(safe_paper_holds(BOOK, EXAMPLE, -3, paper), False)
        paper = [(0, 0, False, -3), (0, 0, True, -2), (1, 1, False, -3), (1, 1, True, -2)]
        self.assertIs(told(safe_paper_holds, BOOK, EXAMPLE, -3, paper), True)
        self.assertIs(told(safe_paper_holds, BOOK, EXAMPLE, -2, paper), False)
        line = safe_paper(LINE, (("a", "e"),))
        self.assertIs(told(safe_paper_holds, LINE, (("a", "e"),), 0, line), True)
        lower = line[:5] + [(3, 3, True, 0)]
        self.assertIs(told(safe_paper_holds, LINE, (("a", "e"),), 0, lower), False)
        self.assertIs(told(safe_paper_holds, LINE, (("a", "e"),), -1, lower), True)
        lower = line[:3] + [(2, 2, True, 0)] + line[4:]
        self.assertIs(told(safe_paper_holds, LINE, (("a", "e"),), 0, lower), False)
        lower = line[:3] + [(2, 2, True, 0), (3, 3, False, 0), (3, 3, True, 0)]
        self.assertIs(told(safe_paper_holds, LINE, (("a", "e"),), -1, lower), True)
        # The first one has a number of at most 0.
        self.assertIs(told(safe_paper_holds, NOTHING, CHAIN, 5, [(0, 0, False, 0)]), True)
        self.assertIs(told(safe_paper_holds, NOTHING, CHAIN, 5, [(0, 0, False, -10 ** 59)]), True)
        self.assertIs(told(safe_paper_holds, NOTHING, CHAIN, 5, [(0, 0, False, 1)]), False)

    def test_others_that_hold(self):
        paper = safe_paper(BOOK, ())
        more = paper + [(0, 1, False, -7), (1, 0, False, -7)]
        # By a, which both rooms have, the one pair leads to the other one and back.
        self.assertIs(told(safe_paper_holds, BOOK, (), 5, more), True)
        self.assertIs(told(safe_paper_holds, BOOK, (), 5, paper + [(0, 1, True, 9), (1, 0, True, 9)]), True)
        self.assertIs(told(safe_paper_holds, BOOK, (), 5, paper + [(0, 1, True, 9), (1, 0, True, 8)]), False)
        self.assertIs(told(safe_paper_holds, BOOK, (), 5, paper + [(0, 1, False, 3)]), False)
        self.assertIs(told(safe_paper_holds, BOOK, (), 5, paper + [(0, 0, True, 6), (1, 1, True, 6)]), True)
        self.assertIs(told(safe_paper_holds, BOOK, (), 6, paper + [(0, 0, True, 6), (1, 1, True, 6)]), False)

    def test_both_orders_of_rooms(self):
        book = (4, ((0, "a", 1), (0, "b", 2), (1, "a", 3), (2, "a", 3)), (3,))
        paper = told(safe_paper, book, BOTH_GO)
        self.assertEqual(paper, [(0, 0, False, 0), (1, 1, False, 0), (1, 2, True, 2), (2, 1, True, 2), (2, 2, False, 0),
                                 (3, 3, False, 0), (3, 3, True, 2)])
        for entry in ((1, 2, True, 2), (2, 1, True, 2)):
            short = [other for other in paper if other != entry]
            self.assertIs(safe_paper_holds(book, BOTH_GO, 1, short), False)
        self.assertIs(safe_paper_holds(book, BOTH_GO, 1, paper), True)

    def test_entries_of_other_kinds(self):
        paper = safe_paper(BOOK, EXAMPLE)
        self.assertIs(safe_paper_holds(BOOK, EXAMPLE, 0, paper), True)
        wrong = [(0, 0, 0, 0), (0, 0, 1, 1), (0, 0, None, 0), (0, 0, "", 0), (False, 0, False, 0), (0, False, False, 0),
                 (True, 1, True, 1), (1, True, True, 1), (1, 1, True, True), (0, 0, False, False), (1, 1, 1, 1),
                 (1, 1, True, None), (1, 1, True, "1"), (2, 1, True, 1), (1, 2, True, 1), (-1, 0, True, 1), (0, -1, True, 1),
                 (0, 0, False), (0, 0, False, 0, 0), (), [0, 0, False, 0], "0000", None, 0, Odd(), (Odd(), 0, False, 0),
                 (0, Odd(), False, 0), (0, 0, Odd(), 0), (0, 0, False, Odd()), (10 ** 59, 0, True, 1), nested(90),
                 (0j, 0, False, 0), (0, 0, False, 0j), (0, 0, False, (0,))]
        for entry in wrong:
            self.assertIs(safe_paper_holds(BOOK, EXAMPLE, 0, paper + [entry]), False)
            self.assertIs(safe_paper_holds(BOOK, EXAMPLE, 0, [entry] + paper), False)
            for at in range(len(paper)):
                self.assertIs(safe_paper_holds(BOOK, EXAMPLE, 0, paper[:at] + [entry] + paper[at + 1:]), False)

    def test_any_object(self):
        paper = safe_paper(BOOK, EXAMPLE)
        for thing in other_kinds() + ["", "ab", (), [], tuple(paper), [paper], nested(90), [nested(90)], {(0, 0): 0}]:
            self.assertIs(safe_paper_holds(BOOK, EXAMPLE, -5, thing), False)


class PairsAlikeTest(unittest.TestCase):
    def test_the_example(self):
        self.assertEqual(told(pairs_alike, BOOK, EXAMPLE, 2, 0), 0)
        self.assertEqual(told(pairs_alike, BOOK, EXAMPLE, 2, 1), 4)
        self.assertEqual(told(pairs_alike, BOOK, EXAMPLE, 2, 2), 6)
        self.assertEqual(told(pairs_alike, BOOK, EXAMPLE, 2, 100), 6)
        self.assertEqual(told(pairs_alike, BOOK, EXAMPLE, 3, 100), 0)

    def test_as_worked_out_plainly(self):
        for book, wear in CASES[:70]:
            common = plain_common(wear)
            for count in range(4):
                texts = plain_texts(book, count)
                if len(texts) < 90:
                    sums = [sum(common[pair] for pair in zip(one, other))
                            for one, other in itertools.combinations(texts, 2)
                            if all(pair in common for pair in zip(one, other))]
                    for most in (0, 1, 2, 3, 4, 7, 100):
                        with self.subTest(book=book, wear=wear, count=count, most=most):
                            many = len([number for number in sums if number <= most])
                            self.assertEqual(told(pairs_alike, book, wear, count, most), many)

    def test_bounds(self):
        for book in BOOKS:
            self.assertEqual(told(pairs_alike, book, CHAIN, 0, 100), 0)
            self.assertEqual(told(pairs_alike, book, CHAIN, 24, 0), 0)
            self.assertEqual(told(pairs_alike, book, (), 24, 100), 0)
            self.assertIs(type(pairs_alike(book, (), 0, 0)), int)

    def test_twenty_four_signs(self):
        for most in (1, 2, 3, 10, 23, 24, 100):
            # So many places at which the one has a and the other b, or the other way round; all others alike.
            many = sum(math.comb(24, unlike) * 2 ** unlike * 6 ** (24 - unlike) for unlike in range(1, min(most, 24) + 1))
            self.assertEqual(told(pairs_alike, ALL, (("b", "a"),), 24, most), many // 2)
        two = (1, ((0, "a", 0), (0, "f", 0)), (0,))
        self.assertEqual(told(pairs_alike, two, CHAIN, 24, 4), 0)
        self.assertEqual(told(pairs_alike, two, CHAIN, 24, 5), 24 * 2 ** 23)
        self.assertEqual(told(pairs_alike, two, CHAIN, 24, 99), sum(math.comb(24, k) for k in range(1, 20)) * 2 ** 23)
        self.assertEqual(told(pairs_alike, two, CHAIN, 24, 100), sum(math.comb(24, k) for k in range(1, 21)) * 2 ** 23)
        self.assertEqual(told(pairs_alike, cycle(12, (0,)), CHAIN, 24, 100), 0)

    def test_twelve_rooms(self):
        # How the rooms are numbered does not count.
        ring = CHAIN[:5] + (("f", "a"),)
        some = told(pairs_alike, TWELVE, ring, 24, 3)
        turned = [0] + list(range(11, 0, -1))
        doors = tuple(sorted((turned[room], sign, turned[behind]) for room, sign, behind in TWELVE[1]))
        other = (12, doors, tuple(sorted(turned[room] for room in TWELVE[2])))
        self.assertEqual(pairs_alike(other, ring, 24, 3), some)
        self.assertLess(pairs_alike(TWELVE, ring, 24, 2), some)
        self.assertEqual([pairs_alike(ALL, ring, 2, most) for most in (1, 2)], self.ring_pairs(ring))

    def ring_pairs(self, ring):
        common = plain_common(ring)
        sums = [sum(common[pair] for pair in zip(one, other)) for one, other in itertools.combinations(strings(2), 2)]
        return [len([number for number in sums if number <= most]) for most in (1, 2)]


# Rows lead to just six hundred pairs of sets of rooms by the one pair of books, to one more by the other.
SOME = (5, ((0, "a", 2), (0, "b", 1), (0, "c", 2), (1, "a", 4), (1, "b", 4), (1, "c", 0), (2, "a", 4), (2, "b", 3),
            (3, "a", 1), (3, "b", 0), (4, "b", 2), (4, "c", 0)), (0, 4))
OTHERS = (5, ((0, "a", 4), (0, "b", 3), (0, "c", 3), (1, "a", 0), (1, "b", 4), (1, "c", 1), (2, "a", 3), (2, "b", 3),
              (2, "c", 2), (3, "a", 4), (3, "b", 1), (3, "c", 4), (4, "a", 4), (4, "b", 2), (4, "c", 2)), (0, 1, 4))
MORE = (5, ((0, "a", 0),) + SOME[1][1:], (0, 4))
MORE_OTHERS = (5, OTHERS[1][:12] + ((4, "a", 1),) + OTHERS[1][13:], (0, 1, 4))


class RowApartTest(unittest.TestCase):
    def test_ordinary_ones(self):
        self.assertEqual(told(row_apart, BOOK, LINE, EXAMPLE), "")
        self.assertEqual(told(row_apart, NOTHING, LINE, EXAMPLE), "d..")
        self.assertEqual(told(row_apart, NOTHING, LINE, ()), "dab")
        self.assertEqual(told(row_apart, ALL, BOOK, ()), "a")
        self.assertEqual(told(row_apart, ALL, BOOK, EXAMPLE), ".")
        self.assertEqual(told(row_apart, ONLY_EMPTY, BOOK, EXAMPLE), "..")
        self.assertEqual(told(row_apart, cycle(2, (0,)), cycle(3, (0,)), CHAIN), "..")
        self.assertEqual(told(row_apart, cycle(2, (0,), "b"), cycle(2, (0,), "c"), EXAMPLE), ".b")
        self.assertEqual(told(row_apart, cycle(1, (0,), "a"), cycle(1, (0,), "b"), EXAMPLE), "b")

    def test_books_that_no_row_parts(self):
        # Each row of a text with b has a text of the other book, too, and the other way round.
        ring = (("a", "b"), ("b", "a"))
        self.assertIsNone(told(row_apart, cycle(1, (0,), "a"), cycle(1, (0,), "b"), ring))
        self.assertIsNone(told(row_apart, cycle(2, (1,), "b"), (2, ((0, "a", 1), (0, "b", 1), (1, "b", 0)), (1,)), ring))
        self.assertEqual(told(row_apart, cycle(1, (0,), "a"), cycle(1, (0,), "b"), ring[:1]), "a")
        self.assertIsNone(told(row_apart, NOTHING, (3, ((0, "a", 1), (2, "b", 2)), (2,)), CHAIN))

    def test_the_same_texts_written_otherwise(self):
        for seed, book in enumerate(BOOKS):
            for wear in ((), EXAMPLE, BOTH_GO):
                with self.subTest(book=book, wear=wear):
                    self.assertIsNone(told(row_apart, book, book, wear))
                    self.assertIsNone(told(row_apart, book, shuffled(book, seed), wear))
                    self.assertIsNone(told(row_apart, shuffled(book, seed), book, wear))

    def test_as_worked_out_plainly(self):
        chance = random.Random(18)
        apart = 0
        for _ in range(250):
            one, other, wear = chance.choice(BOOKS), chance.choice(BOOKS), chance.choice(WEARS)
            pairs = plain_pairs(one, other, wear)
            rows = [row for (rooms, others), row in pairs.items()
                    if rooms.isdisjoint(one[2]) != others.isdisjoint(other[2])]
            with self.subTest(one=one, other=other, wear=wear):
                if len(pairs) > 600:
                    with self.assertRaises(TooMany):
                        row_apart(one, other, wear)
                else:
                    self.assertEqual(told(row_apart, one, other, wear), rows[0] if rows else None)
                    self.assertEqual(row_apart(other, one, wear), rows[0] if rows else None)
                    apart += bool(rows)
        self.assertGreater(apart, 60)

    def test_by_all_short_rows(self):
        chance = random.Random(19)
        books = some_books(12, most=3, letters="abc")
        for _ in range(40):
            one, other, wear = chance.choice(books), chance.choice(books), chance.choice(WEARS[:7])
            rows = [row for length in range(4) for row in strings(length, WORN)
                    if bool(plain_readings(one, wear, row)) != bool(plain_readings(other, wear, row))]
            row = told(row_apart, one, other, wear)
            with self.subTest(one=one, other=other, wear=wear):
                if rows:
                    self.assertEqual(row, rows[0])
                else:
                    self.assertTrue(row is None or len(row) > 3)

    def test_just_six_hundred_pairs_and_more(self):
        self.assertEqual(len(plain_pairs(SOME, OTHERS, BOTH_GO)), 600)
        self.assertEqual(len(plain_pairs(MORE, MORE_OTHERS, BOTH_GO)), 601)
        self.assertEqual(told(row_apart, SOME, OTHERS, BOTH_GO), told(row_apart, OTHERS, SOME, BOTH_GO))
        self.assertIsNotNone(row_apart(SOME, OTHERS, BOTH_GO))
        for one, other in ((MORE, MORE_OTHERS), (MORE_OTHERS, MORE)):
            with self.assertRaises(TooMany):
                row_apart(one, other, BOTH_GO)

    def test_too_many_hangs_on_the_pairs_alone(self):
        # It is raised, too, if the row without signs parts the books, and if no text is of them.
        for ends, others in (((0,), ()), ((), ()), ((0, 1, 2, 3, 4), (0, 1, 2, 3, 4))):
            with self.assertRaises(TooMany):
                row_apart(MORE[:2] + (ends,), MORE_OTHERS[:2] + (others,), BOTH_GO)
            row_apart(SOME[:2] + (ends,), OTHERS[:2] + (others,), BOTH_GO)
        self.assertEqual(row_apart(SOME[:2] + ((0,),), OTHERS[:2] + ((),), BOTH_GO), "")

    def test_a_long_row(self):
        row = told(row_apart, cycle(8, (7,)), cycle(9, (7,)), BOTH_GO)
        self.assertEqual(row, "." * 15)
        row = told(row_apart, cycle(11, (10,)), cycle(12, (10,)), ())
        self.assertEqual(row, "a" * 21)
        # Longer than any row that can be handed in: three rings, of 2, 3 and 5 rooms, that all miss an end at once.
        rings = [(0, "a", 1), (0, "b", 3), (0, "c", 6), (1, "a", 2), (2, "a", 1), (3, "a", 4), (4, "a", 5), (5, "a", 3)]
        rings += [(room, "a", room + 1) for room in range(6, 10)] + [(10, "a", 6)]
        book = (11, tuple(rings), (1, 3, 4, 6, 7, 8, 9))
        self.assertEqual(told(row_apart, book, (2, ((0, "a", 1), (1, "a", 1)), (1,)), RING), "a" * 30)

    def test_signs_of_the_rows(self):
        self.assertEqual(sorted(WORN), list(WORN))
        for sign in LETTERS:
            self.assertEqual(told(row_apart, cycle(1, (0,), sign), ONLY_EMPTY, ()), sign)
            self.assertEqual(told(row_apart, cycle(1, (0,), sign), ONLY_EMPTY, CHAIN), ".")


if __name__ == "__main__":
    unittest.main()
