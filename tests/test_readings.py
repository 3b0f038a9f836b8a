"""Points 3, 12, 13 and 14: the readings of one row."""

import random
import unittest

from tests.plain import ALL, ASTRAY, BOOK, LINE, NOTHING, ONLY_EMPTY, TWELVE
from tests.plain import bad_books, bad_counts, check_kinds, cycle, plain_readings, plain_sum, some_books, strings, told
from tests.things import CHAIN, EXAMPLE, LETTERS, Odd, RING, SEEN, TWO_PARTS
from tests.things import bad_strs, bad_wears, plain_steps, some_wears
from wornstones.books import is_of
from wornstones.errors import BadBook, BadCount, BadNumber, BadRow, BadText, BadWear, TooMany
from wornstones.readings import best_look, count_readings, count_within, least_worn, nth_reading, possible_signs
from wornstones.readings import reading_number, readings, steps_told, sure_signs, sure_within

# Four and four and five and five signs, and one more text that begins with e.
FOUR_HUNDRED = (5, tuple((room, sign, room + 1) for room in range(4) for sign in "abcde"[:4 + room // 2]), (4,))
ONE_MORE = (8, tuple(sorted(FOUR_HUNDRED[1] + ((0, "e", 5), (5, "a", 6), (6, "a", 7), (7, "a", 4)))), (4,))


def some_cases(many, longest=4):
    """As many books, wears and rows, the same ones in each run."""
    chance = random.Random(12)
    books = [BOOK, ALL, ASTRAY, LINE, ONLY_EMPTY, NOTHING] + some_books(25, letters="abce")
    wears = some_wears(40)
    cases = [(BOOK, EXAMPLE, row) for row in ("", "a.", "??", "a", "b.", "..", "a?.?", "ca")]
    for number in range(many):
        row = "".join(chance.choices("???..aabce" if number % 3 else SEEN, k=number % (longest + 1)))
        cases.append((chance.choice(books), chance.choice(wears), row))
    return cases


CASES = some_cases(400)
HELD = [(book, wear, row, plain_readings(book, wear, row)) for book, wear, row in CASES]


def alone_or_asked(signs):
    """The sign that stands alone, "?" for several."""
    return signs[0] if len(signs) == 1 else "?"


def signs_at(texts, place):
    """The ascending list of the signs that texts have at a place."""
    return sorted({text[place] for text in texts})


class KindsTest(unittest.TestCase):
    def test_in_the_order_of_the_parameters(self):
        first = [(BadBook, bad_books()), (BadWear, bad_wears()), (BadRow, bad_strs(SEEN))]
        for function in (count_readings, readings, possible_signs, sure_signs, least_worn, steps_told, best_look):
            check_kinds(self, function, [BOOK, EXAMPLE, "a."], first)
        counts = (BadCount, bad_counts(0, 500))
        for function in (count_within, sure_within):
            check_kinds(self, function, [BOOK, EXAMPLE, "a.", 1], first + [counts])
        check_kinds(self, nth_reading, [BOOK, EXAMPLE, "a.", 1], first + [(BadNumber, bad_counts(0, 3))])
        check_kinds(self, reading_number, [BOOK, EXAMPLE, "a.", "ac"], first + [(BadText, bad_strs(LETTERS))])

    def test_a_kind_is_looked_for_ahead_of_too_many(self):
        with self.assertRaises(BadRow):
            readings(ALL, (), "?" * 25)
        with self.assertRaises(TooMany):
            readings(ALL, (), "?" * 24)


class ExampleTest(unittest.TestCase):
    def test_the_row_of_the_document(self):
        self.assertEqual(told(count_readings, BOOK, EXAMPLE, "a."), 4)
        self.assertEqual(told(readings, BOOK, EXAMPLE, "a."), ["aa", "ac", "ba", "bc"])
        self.assertEqual(told(possible_signs, BOOK, EXAMPLE, "a."), [("a", "b"), ("a", "c")])
        self.assertEqual(told(sure_signs, BOOK, EXAMPLE, "a."), "??")
        self.assertEqual(told(sure_signs, BOOK, EXAMPLE, "b."), "b?")
        self.assertEqual(told(least_worn, BOOK, EXAMPLE, "a."), (1, "aa"))
        self.assertEqual(told(steps_told, BOOK, EXAMPLE, "a."), [1, 2, 3])
        self.assertEqual([told(count_within, BOOK, EXAMPLE, "a.", count) for count in range(5)], [0, 1, 3, 4, 4])
        self.assertEqual(told(best_look, BOOK, EXAMPLE, "a."), [0, 1])
        self.assertEqual([told(sure_within, BOOK, EXAMPLE, "a.", count) for count in range(3)], ["aa", "??", "??"])


class ReadingsTest(unittest.TestCase):
    def test_as_worked_out_plainly(self):
        for book, wear, row, held in HELD:
            texts = [text for text, _ in held]
            with self.subTest(book=book, wear=wear, row=row):
                self.assertEqual(told(count_readings, book, wear, row), len(texts))
                self.assertEqual(told(possible_signs, book, wear, row),
                                 [tuple(signs_at(texts, place)) for place in range(len(row))])
                sure = "".join(alone_or_asked(signs_at(texts, place)) for place in range(len(row))) if texts else None
                self.assertEqual(told(sure_signs, book, wear, row), sure)
                if len(texts) <= 400:
                    self.assertEqual(told(readings, book, wear, row), texts)
                else:
                    with self.assertRaises(TooMany):
                        readings(book, wear, row)

    def test_numbers(self):
        for book, wear, row, held in HELD:
            texts = [text for text, _ in held]
            with self.subTest(book=book, wear=wear, row=row):
                for number in range(0, len(texts), len(texts) // 30 + 1):
                    self.assertEqual(nth_reading(book, wear, row, number), texts[number])
                    self.assertEqual(reading_number(book, wear, row, texts[number]), number)
                for number in (-1, len(texts), len(texts) + 1, 10 ** 59, None, True, False, Odd()):
                    with self.assertRaises(BadNumber):
                        nth_reading(book, wear, row, number)

    def test_texts_that_are_no_readings(self):
        for book, wear, row, held in HELD[:120]:
            texts = {text for text, _ in held}
            for length in (0, 1, 2, 3):
                for text in strings(length, "abc"):
                    if text not in texts:
                        self.assertIsNone(reading_number(book, wear, row, text))
        self.assertIsNone(told(reading_number, BOOK, EXAMPLE, "a.", "aaa"))
        self.assertIsNone(told(reading_number, BOOK, EXAMPLE, "a.", "a"))
        self.assertIsNone(told(reading_number, BOOK, EXAMPLE, "a.", ""))
        self.assertIsNone(told(reading_number, BOOK, EXAMPLE, "a.", "ab"))
        self.assertIsNone(told(reading_number, BOOK, EXAMPLE, "b.", "aa"))
        self.assertEqual(told(reading_number, BOOK, EXAMPLE, "a.", "bc"), 3)
        self.assertEqual(told(nth_reading, BOOK, EXAMPLE, "a.", 2), "ba")

    def test_rows_without_signs(self):
        for book in (BOOK, ALL, ONLY_EMPTY):
            self.assertEqual(told(count_readings, book, EXAMPLE, ""), 1)
            self.assertEqual(told(readings, book, EXAMPLE, ""), [""])
            self.assertEqual(told(nth_reading, book, EXAMPLE, "", 0), "")
            self.assertEqual(told(reading_number, book, EXAMPLE, "", ""), 0)
            self.assertEqual(told(possible_signs, book, EXAMPLE, ""), [])
            self.assertEqual(told(sure_signs, book, EXAMPLE, ""), "")
            self.assertEqual(told(least_worn, book, EXAMPLE, ""), (0, ""))
            self.assertEqual(told(count_within, book, EXAMPLE, "", 0), 1)
            self.assertEqual(told(steps_told, book, EXAMPLE, ""), [0])
            self.assertEqual(told(best_look, book, EXAMPLE, ""), [])
            self.assertEqual(told(sure_within, book, EXAMPLE, "", 0), "")
        self.check_none(NOTHING, EXAMPLE, "")
        self.check_none(LINE, EXAMPLE, "")

    def check_none(self, book, wear, row):
        self.assertEqual(told(count_readings, book, wear, row), 0)
        self.assertEqual(told(readings, book, wear, row), [])
        self.assertEqual(told(possible_signs, book, wear, row), [()] * len(row))
        self.assertIsNone(told(sure_signs, book, wear, row))
        self.assertIsNone(told(least_worn, book, wear, row))
        self.assertEqual(told(count_within, book, wear, row, 500), 0)
        self.assertEqual(told(steps_told, book, wear, row), [])
        self.assertEqual(told(best_look, book, wear, row), [])
        self.assertIsNone(told(sure_within, book, wear, row, 500))
        self.assertIsNone(told(reading_number, book, wear, row, "a" * len(row)))
        for number in (0, 1, -1):
            with self.assertRaises(BadNumber):
                nth_reading(book, wear, row, number)

    def test_rows_without_a_reading(self):
        self.check_none(BOOK, EXAMPLE, "a")
        self.check_none(BOOK, EXAMPLE, "ab")
        self.check_none(BOOK, EXAMPLE, "d?")
        self.check_none(BOOK, (), "..")
        self.check_none(NOTHING, CHAIN, "?" * 24)
        self.check_none(cycle(5, (0,)), CHAIN, "?" * 24)
        self.check_none(ALL, RING, "." + "?" * 23)
        # Some signs could stand there, but the doors lead to no end.
        self.check_none(ASTRAY, CHAIN, "??")

    def test_just_four_hundred_and_one_more(self):
        self.assertEqual(told(count_readings, FOUR_HUNDRED, (), "????"), 400)
        texts = told(readings, FOUR_HUNDRED, (), "????")
        self.assertEqual(texts, [text for text in strings(4, "abcde") if text[0] < "e" and text[1] < "e"])
        self.assertEqual(len(texts), 400)
        self.assertEqual(told(count_readings, ONE_MORE, (), "????"), 401)
        with self.assertRaises(TooMany):
            readings(ONE_MORE, (), "????")
        self.assertEqual(told(readings, ONE_MORE, (), "e???"), ["eaaa"])
        self.assertEqual(told(nth_reading, ONE_MORE, (), "????", 400), "eaaa")
        self.assertEqual(told(reading_number, ONE_MORE, (), "????", "eaaa"), 400)

    def test_only_readings_raises_too_many(self):
        row = "?" * 24
        self.assertEqual(told(count_readings, ALL, CHAIN, row), 6 ** 24)
        self.assertEqual(told(possible_signs, ALL, CHAIN, row), [tuple(LETTERS)] * 24)
        self.assertEqual(told(sure_signs, ALL, CHAIN, row), row)
        self.assertEqual(told(nth_reading, ALL, CHAIN, row, 6 ** 24 - 1), "f" * 24)
        self.assertEqual(told(reading_number, ALL, CHAIN, row, "f" * 24), 6 ** 24 - 1)
        self.assertEqual(told(best_look, ALL, CHAIN, row), list(range(24)))


class TwentyFourSignsTest(unittest.TestCase):
    def test_few_readings(self):
        self.assertEqual(told(readings, BOOK, EXAMPLE, "bc" * 11 + "cb"), [])
        row = "bc" * 10 + "a.?a"
        texts = ["bc" * 10 + one + two for one in ("aa", "ac", "ba", "bc") for two in ("aa", "ac", "ba", "bc")]
        self.assertEqual(told(readings, BOOK, EXAMPLE, row), texts)
        self.assertEqual(told(sure_signs, BOOK, EXAMPLE, row), "bc" * 10 + "????")
        self.assertEqual(told(least_worn, BOOK, EXAMPLE, row), (1, "bc" * 10 + "aaaa"))
        self.assertEqual(told(steps_told, BOOK, EXAMPLE, row), [1, 2, 3, 4])
        self.assertEqual(told(best_look, BOOK, EXAMPLE, row), [20, 21, 22, 23])
        self.assertEqual(told(sure_within, BOOK, EXAMPLE, row, 0), "bc" * 10 + "aa?a")
        self.assertEqual(told(sure_within, BOOK, EXAMPLE, row, 1), "bc" * 10 + "????")
        told_steps = [plain_sum(plain_steps(EXAMPLE), text, row) for text in texts]
        for count in range(6):
            self.assertEqual(told(count_within, BOOK, EXAMPLE, row, count), len([n for n in told_steps if n <= count]))

    def test_all_that_stands_in_a_book(self):
        row = "." * 24
        self.assertEqual(told(count_readings, ALL, CHAIN, row), 6 ** 24)
        self.assertEqual(told(least_worn, ALL, CHAIN, row), (24, "f" * 24))
        self.assertEqual(told(steps_told, ALL, CHAIN, row), list(range(24, 145)))
        self.assertEqual(told(count_within, ALL, CHAIN, row, 23), 0)
        self.assertEqual(told(count_within, ALL, CHAIN, row, 24), 1)
        self.assertEqual(told(count_within, ALL, CHAIN, row, 25), 25)
        self.assertEqual(told(count_within, ALL, CHAIN, row, 26), 25 + 24 + 24 * 23 // 2)
        self.assertEqual(told(count_within, ALL, CHAIN, row, 143), 6 ** 24 - 1)
        self.assertEqual(told(count_within, ALL, CHAIN, row, 144), 6 ** 24)
        self.assertEqual(told(count_within, ALL, CHAIN, row, 500), 6 ** 24)
        self.assertEqual(told(sure_within, ALL, CHAIN, row, 0), "f" * 24)
        self.assertEqual(told(sure_within, ALL, CHAIN, row, 1), "?" * 24)
        self.assertEqual(told(nth_reading, ALL, CHAIN, row, 7 * 6 ** 2), "a" * 20 + "bbaa")

    def test_a_ring_of_twelve_rooms(self):
        row = "?" * 24
        count = told(count_readings, TWELVE, RING, row)
        for number in (0, 1, count // 2, count - 1):
            text = told(nth_reading, TWELVE, RING, row, number)
            self.assertIs(is_of(TWELVE, text), True)
            self.assertEqual(told(reading_number, TWELVE, RING, row, text), number)
        self.assertEqual(told(least_worn, TWELVE, RING, row), (0, nth_reading(TWELVE, RING, row, 0)))
        self.assertEqual(told(steps_told, TWELVE, RING, row), [0])


class StepsTest(unittest.TestCase):
    def test_as_worked_out_plainly(self):
        for book, wear, row, held in HELD:
            sums = [steps for _, steps in held]
            with self.subTest(book=book, wear=wear, row=row):
                least = min([(steps, text) for text, steps in held], default=None)
                self.assertEqual(told(least_worn, book, wear, row), least)
                self.assertEqual(told(steps_told, book, wear, row), sorted(set(sums)))
                for count in (0, 1, 2, 3, 5, 24, 500):
                    many = len([steps for steps in sums if steps <= count])
                    self.assertEqual(told(count_within, book, wear, row, count), many)

    def test_the_first_of_several(self):
        self.assertEqual(told(least_worn, BOOK, EXAMPLE, "????"), (0, "aaaa"))
        self.assertEqual(told(least_worn, ALL, TWO_PARTS, "."), (1, "c"))
        both = (("b", "."), ("e", "."))
        self.assertEqual(told(least_worn, ALL, both, ".."), (2, "bb"))
        # The least text is not the one with the least steps.
        book = (4, ((0, "a", 1), (0, "b", 2), (1, "a", 3), (2, "b", 3)), (3,))
        self.assertEqual(told(least_worn, book, (("a", "."), ("b", "."), ("b", "c")), "?."), (1, "aa"))
        self.assertEqual(told(least_worn, book, (("a", "c"), ("b", "."), ("c", ".")), "?."), (1, "bb"))

    def test_bounds(self):
        self.assertEqual(told(count_within, BOOK, EXAMPLE, "a.", 500), 4)
        self.assertEqual(told(sure_within, BOOK, EXAMPLE, "a.", 500), "??")
        for count in (-1, 501, True, None, Odd()):
            for function in (count_within, sure_within):
                with self.assertRaises(BadCount):
                    function(BOOK, EXAMPLE, "a.", count)
                # Also where there is no reading.
                with self.assertRaises(BadCount):
                    function(NOTHING, EXAMPLE, "a.", count)


class LooksTest(unittest.TestCase):
    def test_as_worked_out_plainly(self):
        for book, wear, row, held in HELD:
            texts = [text for text, _ in held]
            worst = [max([len([text for text in texts if text[place] == sign]) for sign in LETTERS])
                     for place in range(len(row))]
            best = [place for place in range(len(row)) if worst[place] == min(worst)] if len(texts) > 1 else []
            with self.subTest(book=book, wear=wear, row=row):
                self.assertEqual(told(best_look, book, wear, row), best)
                for count in (0, 1, 2, 4, 500):
                    least = min([steps for _, steps in held], default=0)
                    near = [text for text, steps in held if steps <= least + count]
                    sure = "".join(alone_or_asked(signs_at(near, place)) for place in range(len(row))) if near else None
                    self.assertEqual(told(sure_within, book, wear, row, count), sure)

    def test_one_reading_or_none(self):
        self.assertEqual(told(best_look, BOOK, EXAMPLE, "bc"), [])
        self.assertEqual(told(best_look, BOOK, EXAMPLE, "c"), [])
        self.assertEqual(told(sure_within, BOOK, EXAMPLE, "bc", 0), "bc")
        self.assertEqual(told(sure_within, BOOK, EXAMPLE, "bc", 500), "bc")

    def test_places_that_are_alike(self):
        # One place tells all three texts apart, two tell one of them from the others.
        book = (5, ((0, "a", 1), (1, "a", 2), (1, "b", 3), (1, "c", 4), (2, "a", 0), (3, "a", 0), (4, "b", 0)), (0,))
        self.assertEqual(told(readings, book, (), "???"), ["aaa", "aba", "acb"])
        self.assertEqual(told(best_look, book, (), "???"), [1])
        self.assertEqual(told(best_look, book, (), "??a"), [1])
        self.assertEqual(told(possible_signs, book, (), "???"), [("a",), ("a", "b", "c"), ("a", "b")])

    def test_long_rows(self):
        row = "?" * 23
        self.assertEqual(told(count_readings, cycle(12, (11,)), RING, row), 1)
        self.assertEqual(told(best_look, cycle(12, (11,)), RING, row), [])


class AnyObjectTest(unittest.TestCase):
    def test_numbers_are_integers(self):
        self.assertIs(type(count_readings(ONLY_EMPTY, (), "")), int)
        self.assertIs(type(reading_number(ONLY_EMPTY, (), "", "")), int)
        self.assertIs(type(count_within(ONLY_EMPTY, (), "", 0)), int)
        self.assertIs(type(least_worn(ONLY_EMPTY, (), "")[0]), int)
        self.assertIs(type(steps_told(ONLY_EMPTY, (), "")[0]), int)


if __name__ == "__main__":
    unittest.main()
