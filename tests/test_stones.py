"""Points 20 and 21: stones of which the right edge is broken off."""

import random
import unittest

from tests.plain import ALL, ASTRAY, BOOK, LINE, NOTHING, ONLY_EMPTY, TWELVE
from tests.plain import bad_books, check_kinds, cycle, plain_readings, some_books, told
from tests.things import CHAIN, EXAMPLE, RING, bad_wears, some_wears
from tests.wrong import bad_stones
from wornstones.errors import BadBook, BadStone, BadWear
from wornstones.readings import count_readings
from wornstones.stones import first_stone, least_stone, stone_counts, stone_rows, stone_widths, sure_lines

# Texts of a and b of any length that end with a c.
TO_C = (2, ((0, "a", 0), (0, "b", 0), (0, "c", 1)), (1,))


def plain_rows(stone):
    """What stone_rows tells, by trying all widths and all numbers of signs."""
    lines, least, most = stone
    found = []
    for width in range(1, 9):
        for last in range(1, 9):
            if least <= width <= most and len(lines[-1]) <= last <= width:
                whole = [line.ljust(width, "?") for line in lines[:-1]] + [lines[-1].ljust(last, "?")]
                found.append((width, last, "".join(whole)))
    return found


def plain_stone(book, wear, stone):
    """The list of (width, last, text, steps) for all readings."""
    return [(width, last, text, steps) for width, last, row in stone_rows(stone)
            for text, steps in plain_readings(book, wear, row)]


def plain_sure(stone, found):
    """What sure_lines tells, by all readings."""
    lines = []
    for at, line in enumerate(stone[0]):
        signs = [{text[at * width + column] for width, _, text, _ in found} for column in range(len(line))]
        lines.append("".join(sorted(some)[0] if len(some) == 1 else "?" for some in signs))
    return tuple(lines) if found else None


def some_stones(many, most_places=6, letters="???..abc"):
    """As many stones with rows of few places, the same ones in each run."""
    chance = random.Random(20)
    stones = []
    while len(stones) < many:
        least = chance.randint(1, 5)
        most = chance.randint(least, min(8, least + 2))
        number = chance.randint(1, 5)
        if number * most <= most_places:
            lines = tuple("".join(chance.choices(letters, k=chance.randint(1, least))) for _ in range(number))
            stones.append((lines, least, most))
    return stones


def some_cases(many):
    """As many books, wears and stones, the same ones in each run."""
    chance = random.Random(21)
    books = [BOOK, BOOK, TO_C, LINE, ASTRAY, ALL, NOTHING, ONLY_EMPTY] + some_books(12, letters="abc")
    books = [book for book in books if len(book[1]) < 20 or book == ALL]
    wears = [(), EXAMPLE, EXAMPLE, RING, CHAIN] + some_wears(20)
    cases = []
    for stone in some_stones(many, 6):
        book = chance.choice(books)
        # All strs of five signs are enough to be tried by a plain way.
        if book == ALL and len(stone[0]) * stone[2] > 4:
            book = TO_C
        cases.append((book, chance.choice(wears), stone))
    return cases


CASES = some_cases(250)


class StoneRowsTest(unittest.TestCase):
    def test_by_hand(self):
        self.assertEqual(told(stone_rows, (("a",), 1, 1)), [(1, 1, "a")])
        self.assertEqual(told(stone_rows, (("a",), 1, 3)),
                         [(1, 1, "a"), (2, 1, "a"), (2, 2, "a?"), (3, 1, "a"), (3, 2, "a?"), (3, 3, "a??")])
        self.assertEqual(told(stone_rows, (("ab", ".", "c?"), 2, 3)),
                         [(2, 2, "ab.?c?"), (3, 2, "ab?.??c?"), (3, 3, "ab?.??c??")])
        self.assertEqual(told(stone_rows, (("a", "b", "c", "d", "e"), 1, 2)),
                         [(1, 1, "abcde"), (2, 1, "a?b?c?d?e"), (2, 2, "a?b?c?d?e?")])
        self.assertEqual(told(stone_rows, (("a",), 8, 8)), [(8, last, "a".ljust(last, "?")) for last in range(1, 9)])

    def test_forty_signs(self):
        stone = (("abcdefab", "........", "????????", "a", "fedcbafe"), 8, 8)
        self.assertEqual(told(stone_rows, stone), [(8, 8, "abcdefab........????????a???????fedcbafe")])
        rows = told(stone_rows, (("a",) * 5, 1, 8))
        self.assertEqual(len(rows), 36)
        self.assertEqual(max(len(row) for _, _, row in rows), 40)

    def test_as_worked_out_plainly(self):
        for stone in some_stones(300, 40):
            with self.subTest(stone=stone):
                self.assertEqual(told(stone_rows, stone), plain_rows(stone))

    def test_ascending(self):
        for stone in some_stones(50, 40):
            rows = stone_rows(stone)
            self.assertEqual(rows, sorted(set(rows)))

    def test_kinds(self):
        check_kinds(self, stone_rows, [(("a",), 1, 1)], [(BadStone, bad_stones())])

    def test_what_is_just_a_stone(self):
        for stone in ((("a" * 8,) * 5, 8, 8), (("a",) * 5, 1, 8), (("?",), 1, 1), ((".",), 8, 8), (("abc", "abc"), 3, 3)):
            with self.subTest(stone=stone):
                self.assertEqual(stone_rows(stone), plain_rows(stone))


class PlainTest(unittest.TestCase):
    def test_as_worked_out_plainly(self):
        for book, wear, stone in CASES:
            with self.subTest(book=book, wear=wear, stone=stone):
                found = plain_stone(book, wear, stone)
                pairs = sorted({(width, last) for width, last, _, _ in found})
                counts = [(width, last, len([1 for one in found if one[:2] == (width, last)])) for width, last in pairs]
                self.assertEqual(told(stone_counts, book, wear, stone), counts)
                self.assertEqual(told(stone_widths, book, wear, stone), sorted({width for width, _ in pairs}))
                first = min([(width, text) for width, _, text, _ in found], default=None)
                self.assertEqual(told(first_stone, book, wear, stone), first)
                self.assertEqual(told(sure_lines, book, wear, stone), plain_sure(stone, found))
                least = min([(steps, width, text) for width, _, text, steps in found], default=None)
                self.assertEqual(told(least_stone, book, wear, stone), least)

    def test_the_cases_are_of_many_kinds(self):
        found = [plain_stone(*case) for case in CASES]
        self.assertGreater(len([1 for one in found if not one]), 20)
        self.assertGreater(len([1 for one in found if len({width for width, _, _, _ in one}) == 1]), 20)
        self.assertGreater(len([1 for one in found if len({width for width, _, _, _ in one}) > 1]), 20)
        self.assertGreater(len([1 for one in found if len({(steps, text) for _, _, text, steps in one}) < len(one)]), 5)


class ByHandTest(unittest.TestCase):
    def test_no_reading(self):
        for book, wear, stone in ((NOTHING, CHAIN, (("?",), 1, 8)), (ONLY_EMPTY, (), (("a", "b"), 2, 3)),
                                  (BOOK, EXAMPLE, (("d",), 1, 8)), (BOOK, EXAMPLE, (("a",), 1, 1))):
            with self.subTest(book=book, stone=stone):
                self.assertEqual(told(stone_counts, book, wear, stone), [])
                self.assertEqual(told(stone_widths, book, wear, stone), [])
                self.assertIsNone(told(first_stone, book, wear, stone))
                self.assertIsNone(told(sure_lines, book, wear, stone))
                self.assertIsNone(told(least_stone, book, wear, stone))

    def test_one_width_alone(self):
        # The texts have three signs, or seven, eleven .., so the width is neither 1 nor 3.
        book = cycle(4, (3,))
        stone = (("a", "a"), 1, 3)
        self.assertEqual(told(stone_counts, book, (), stone), [(2, 1, 1)])
        self.assertEqual(told(stone_widths, book, (), stone), [2])
        self.assertEqual(told(first_stone, book, (), stone), (2, "aaa"))
        self.assertEqual(told(least_stone, book, (), stone), (0, 2, "aaa"))
        self.assertEqual(told(sure_lines, book, (), stone), ("a", "a"))

    def test_the_first_text_however_long_the_last_line(self):
        # With one width the texts "a", "ba", "bba" are readings; the first one has the most signs.
        book = (3, ((0, "a", 2), (0, "b", 1), (1, "a", 1), (1, "b", 1), (1, "c", 1)), (1, 2))
        self.assertEqual(told(first_stone, book, (), (("?",), 3, 3)), (3, "a"))
        self.assertEqual(told(first_stone, book, (), (("b",), 3, 3)), (3, "b"))
        self.assertEqual(told(first_stone, book, (), (("b?",), 3, 3)), (3, "ba"))
        three = (4, ((0, "a", 1), (0, "b", 3), (1, "a", 2), (2, "a", 3)), (3,))
        self.assertEqual(told(stone_counts, three, (), (("?",), 3, 3)), [(3, 1, 1), (3, 3, 1)])
        self.assertEqual(told(first_stone, three, (), (("?",), 3, 3)), (3, "aaa"))
        self.assertEqual(told(least_stone, three, (), (("?",), 3, 3)), (0, 3, "aaa"))

    def test_equal_steps_with_several_widths(self):
        stone = (("a",), 2, 4)
        self.assertEqual(told(stone_counts, BOOK, EXAMPLE, stone), [(2, 2, 4), (3, 2, 4), (4, 2, 4), (4, 4, 16)])
        self.assertEqual(told(stone_widths, BOOK, EXAMPLE, stone), [2, 3, 4])
        self.assertEqual(told(least_stone, BOOK, EXAMPLE, stone), (0, 2, "aa"))
        self.assertEqual(told(first_stone, BOOK, EXAMPLE, stone), (2, "aa"))

    def test_fewer_steps_with_a_greater_width(self):
        # With two signs in a line the third a has to come to a b, with three none has.
        book = (5, ((0, "a", 1), (1, "a", 2), (2, "a", 3), (3, "b", 4)), (4,))
        wear = (("a", "b"),)
        stone = (("a", "b"), 2, 3)
        self.assertEqual(plain_stone(book, wear, stone), [(2, 2, "aaab", 1), (3, 1, "aaab", 0)])
        self.assertEqual(told(least_stone, book, wear, stone), (0, 3, "aaab"))
        self.assertEqual(told(first_stone, book, wear, stone), (2, "aaab"))
        self.assertEqual(told(least_stone, book, wear, (("b", "b"), 2, 3)), (1, 3, "aaab"))

    def test_signs_that_are_sure_with_each_width(self):
        # The text ends with a c; where, hangs on the width and on the last line.
        self.assertEqual(told(sure_lines, TO_C, (), (("a?", "b"), 2, 3)), ("a?", "b"))
        self.assertEqual(told(sure_lines, TO_C, (), (("a?", "c"), 2, 3)), ("a?", "c"))
        self.assertEqual(told(stone_counts, TO_C, (), (("a?", "c"), 2, 3)), [(2, 1, 2), (3, 1, 4)])
        # Signs at places with "?" can be sure, too: what stands at odd places is an a.
        book = (2, ((0, "b", 1), (0, "c", 1), (1, "a", 0)), (0,))
        self.assertEqual(told(sure_lines, book, (), (("??", "??"), 2, 2)), ("?a", "?a"))
        self.assertEqual(told(sure_lines, book, (), (("??", "??"), 2, 3)), ("?a", "??"))
        self.assertEqual(told(stone_widths, book, (), (("??", "??"), 2, 3)), [2, 3])
        self.assertEqual(told(sure_lines, book, (), (("??", "??"), 3, 3)), ("?a", "a?"))

    def test_forty_signs(self):
        stone = (("?" * 8,) * 5, 8, 8)
        self.assertEqual(told(stone_counts, ALL, CHAIN, stone), [(8, 8, 6 ** 40)])
        self.assertEqual(told(first_stone, ALL, CHAIN, stone), (8, "a" * 40))
        self.assertEqual(told(least_stone, ALL, CHAIN, (("." * 8,) * 5, 8, 8)), (40, 8, "f" * 40))
        self.assertEqual(told(sure_lines, ALL, CHAIN, (("b" * 8,) * 5, 8, 8)), ("?" * 8,) * 5)
        self.assertEqual(told(sure_lines, ALL, CHAIN, (("a" * 8,) * 5, 8, 8)), ("a" * 8,) * 5)
        self.assertEqual(told(stone_counts, ALL, CHAIN, (("?",) * 5, 1, 8)),
                         [(width, last, 6 ** (4 * width + last)) for width in range(1, 9) for last in range(1, width + 1)])
        self.assertEqual(stone_counts(TWELVE, RING, stone), [(8, 8, self.count_by_matrix(TWELVE, 40))])

    def count_by_matrix(self, book, length):
        """How many texts of so many signs are of a book, room by room from the front."""
        ways = {0: 1}
        for _ in range(length):
            behind = {}
            for room, _, other in book[1]:
                behind[other] = behind.get(other, 0) + ways.get(room, 0)
            ways = behind
        return sum(many for room, many in ways.items() if room in book[2])

    def test_a_stone_that_is_whole(self):
        for row in ("a.", "aa", "b?", "??"):
            self.assertEqual(stone_counts(BOOK, EXAMPLE, ((row,), 2, 2)), [(2, 2, count_readings(BOOK, EXAMPLE, row))])


class KindsTest(unittest.TestCase):
    def test_kinds(self):
        bad = [(BadBook, bad_books()), (BadWear, bad_wears()), (BadStone, bad_stones())]
        for function in (stone_counts, stone_widths, first_stone, sure_lines, least_stone):
            check_kinds(self, function, [BOOK, EXAMPLE, (("a",), 1, 3)], bad)


if __name__ == "__main__":
    unittest.main()
