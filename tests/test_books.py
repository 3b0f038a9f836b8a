"""Points 2, 3 and 8: books, rooms, and the texts of so many signs with their numbers."""

import unittest

from tests.plain import ALL, ASTRAY, BOOK, LINE, NOTHING, ONLY_EMPTY, TWELVE
from tests.plain import bad_books, bad_counts, check_kinds, cycle, plain_after, plain_texts, some_books, strings, told
from tests.things import LETTERS, Odd, bad_strs, other_kinds
from wornstones.books import count_of, is_book, is_of, next_of, nth_of, number_of, room_after
from wornstones.errors import BadBook, BadCount, BadNumber, BadText, NotOf

NAMED = [BOOK, NOTHING, ONLY_EMPTY, ALL, ASTRAY, LINE, cycle(3, (1,)), cycle(2, ()), (2, (), (1,)), (2, (), (0, 1))]
BOOKS = NAMED + some_books(40)


class IsBookTest(unittest.TestCase):
    def test_books(self):
        for book in BOOKS + [TWELVE, cycle(12, range(12))]:
            with self.subTest(book=book):
                self.assertIs(told(is_book, book), True)

    def test_none_and_seventy_two_doors(self):
        self.assertEqual(len(TWELVE[1]), 72)
        for rooms in range(1, 13):
            for ends in ((), (0,), (rooms - 1,), tuple(range(rooms))):
                self.assertIs(is_book((rooms, (), ends)), True)
                doors = tuple((room, sign, rooms - 1) for room in range(rooms) for sign in LETTERS)
                self.assertIs(is_book((rooms, doors, ends)), True)

    def test_one_thing_wrong(self):
        for number, thing in enumerate(bad_books()):
            with self.subTest(number=number):
                self.assertIs(is_book(thing), False)
                self.assertIs(is_book(thing=thing), False)

    def test_no_room_is_beyond_the_last_one(self):
        for rooms in range(1, 13):
            for book in ((rooms, ((rooms, "a", 0),), ()), (rooms, ((0, "a", rooms),), ()), (rooms, (), (rooms,))):
                self.assertIs(is_book(book), False)
                self.assertIs(is_book((rooms + 1,) + book[1:]), rooms < 12)

    def test_nothing_is_changed(self):
        thing = [2, [[0, "a", 1]], [0]]
        self.assertIs(told(is_book, thing), False)


class KindsTest(unittest.TestCase):
    def test_bad_book_ahead_of_what_else_is_wrong(self):
        books = (BadBook, bad_books())
        texts = (BadText, bad_strs(LETTERS))
        counts = (BadCount, bad_counts(0, 24))
        for function in (room_after, is_of, number_of, next_of):
            check_kinds(self, function, [BOOK, "ac"], [books, texts])
        check_kinds(self, count_of, [BOOK, 2], [books, counts])
        check_kinds(self, nth_of, [BOOK, 2, 0], [books, counts, (BadNumber, bad_counts(0, 3))])

    def test_twenty_five_signs(self):
        for function in (room_after, is_of, number_of, next_of):
            with self.assertRaises(BadText):
                function(ALL, "a" * 25)


class RoomAfterTest(unittest.TestCase):
    def test_ordinary_ones(self):
        self.assertEqual(told(room_after, BOOK, "a"), 1)
        self.assertEqual(told(room_after, BOOK, "bc"), 0)
        self.assertIsNone(told(room_after, BOOK, "c"))
        self.assertIsNone(told(room_after, BOOK, "ab"))
        self.assertIsNone(told(room_after, BOOK, "abc"))
        self.assertEqual(told(room_after, ASTRAY, "ab"), 0)
        self.assertEqual(told(room_after, ASTRAY, "ae"), 2)
        self.assertEqual(told(room_after, ASTRAY, "fddd"), 4)

    def test_no_signs(self):
        for book in BOOKS:
            self.assertEqual(told(room_after, book, ""), 0)
            self.assertIs(told(is_of, book, ""), 0 in book[2])

    def test_as_worked_out_plainly(self):
        for book in BOOKS:
            for length in range(4):
                for text in strings(length, "abf"):
                    room = plain_after(book, text)
                    with self.subTest(book=book, text=text):
                        self.assertEqual(room_after(book, text), room)
                        self.assertIs(is_of(book, text), room in book[2])

    def test_twenty_four_signs(self):
        self.assertEqual(told(room_after, cycle(5, (4,)), "a" * 24), 4)
        self.assertIs(told(is_of, cycle(5, (4,)), "a" * 24), True)
        self.assertIs(told(is_of, cycle(5, (0, 1, 2, 3)), "a" * 24), False)
        self.assertEqual(told(room_after, BOOK, "acbc" * 6), 0)
        self.assertIsNone(told(room_after, BOOK, "acbc" * 5 + "acbb"))
        self.assertIs(told(is_of, BOOK, "acbc" * 5 + "acbb"), False)
        self.assertEqual(told(room_after, TWELVE, "abcdef" * 4), plain_after(TWELVE, "abcdef" * 4))


class NumbersTest(unittest.TestCase):
    def test_counts(self):
        self.assertEqual([told(count_of, BOOK, count) for count in range(5)], [1, 0, 4, 0, 16])
        self.assertEqual(told(count_of, BOOK, 24), 4 ** 12)
        self.assertEqual(told(count_of, ALL, 24), 6 ** 24)
        self.assertEqual([told(count_of, NOTHING, count) for count in (0, 1, 24)], [0, 0, 0])
        self.assertEqual([told(count_of, ONLY_EMPTY, count) for count in (0, 1, 24)], [1, 0, 0])
        self.assertEqual([told(count_of, LINE, count) for count in range(6)], [0, 0, 0, 2, 0, 0])
        self.assertEqual([told(count_of, ASTRAY, count) for count in range(6)], [0, 1, 0, 1, 0, 1])
        self.assertEqual(sum(count_of(TWELVE[:2] + ((room,),), 24) for room in range(12)), 6 ** 24)

    def test_as_worked_out_plainly(self):
        for book in BOOKS:
            for count in range(5):
                texts = plain_texts(book, count)
                with self.subTest(book=book, count=count):
                    self.assertEqual(count_of(book, count), len(texts))
                    self.assertIs(type(count_of(book, count)), int)
                    numbers = range(len(texts)) if len(texts) < 99 else range(0, len(texts), 29)
                    for number in numbers:
                        self.assertEqual(nth_of(book, count, number), texts[number])
                        self.assertEqual(number_of(book, texts[number]), number)

    def test_told_and_told_back_at_twenty_four_signs(self):
        for book in (BOOK, ALL, TWELVE, cycle(12, (0,))):
            many = count_of(book, 24)
            numbers = sorted({0, 1, 2, many // 3, many // 2, many - 2, many - 1})
            texts = [told(nth_of, book, 24, number) for number in numbers if 0 <= number < many]
            self.assertEqual(texts, sorted(texts))
            for number, text in zip([number for number in numbers if 0 <= number < many], texts):
                self.assertEqual(len(text), 24)
                self.assertIs(is_of(book, text), True)
                self.assertEqual(told(number_of, book, text), number)
        self.assertEqual(nth_of(ALL, 24, 0), "a" * 24)
        self.assertEqual(nth_of(ALL, 24, 6 ** 24 - 1), "f" * 24)
        self.assertEqual(number_of(ALL, "b" + "a" * 23), 6 ** 23)

    def test_bad_number(self):
        for book in BOOKS + [TWELVE]:
            for count in (0, 1, 2, 3, 24):
                many = count_of(book, count)
                for number in (-1, many, many + 1, -10 ** 59, 10 ** 59, None, True, False, "0", Odd()):
                    with self.subTest(book=book, count=count):
                        with self.assertRaises(BadNumber):
                            nth_of(book, count, number)

    def test_each_number_if_there_is_none(self):
        for number in (0, 1, -1, 5):
            for book, count in ((NOTHING, 0), (NOTHING, 24), (BOOK, 23), (ONLY_EMPTY, 1), ((2, (), (1,)), 0)):
                with self.assertRaises(BadNumber):
                    nth_of(book, count, number)

    def test_a_bool_is_no_number(self):
        self.assertEqual(nth_of(BOOK, 2, 1), "ac")
        for number in (True, False):
            with self.assertRaises(BadNumber):
                nth_of(BOOK, 2, number)
            with self.assertRaises(BadCount):
                count_of(BOOK, number)
            with self.assertRaises(BadCount):
                nth_of(BOOK, number, 0)

    def test_not_of(self):
        for book, text in ((BOOK, "a"), (BOOK, "ab"), (BOOK, "c"), (NOTHING, ""), (NOTHING, "a"), (ONLY_EMPTY, "a"),
                           (ASTRAY, "ae"), (ASTRAY, "ab"), (ASTRAY, "fd"), (ALL[:2] + ((),), "f" * 24)):
            with self.assertRaises(NotOf):
                number_of(book, text)
        for book in BOOKS:
            for text in strings(2):
                if plain_after(book, text) not in book[2]:
                    with self.assertRaises(NotOf):
                        number_of(book, text)

    def test_no_signs(self):
        for book in BOOKS:
            if 0 in book[2]:
                self.assertEqual(count_of(book, 0), 1)
                self.assertEqual(nth_of(book, 0, 0), "")
                self.assertEqual(number_of(book, ""), 0)
            else:
                self.assertEqual(count_of(book, 0), 0)
            self.assertIsNone(next_of(book, ""))


class NextOfTest(unittest.TestCase):
    def test_ordinary_ones(self):
        self.assertEqual(told(next_of, BOOK, "aa"), "ac")
        self.assertEqual(told(next_of, BOOK, "ab"), "ac")
        self.assertEqual(told(next_of, BOOK, "ac"), "ba")
        self.assertEqual(told(next_of, BOOK, "ae"), "ba")
        self.assertIsNone(told(next_of, BOOK, "bc"))
        self.assertIsNone(told(next_of, BOOK, "fa"))
        self.assertIsNone(told(next_of, BOOK, "a"))
        self.assertEqual(told(next_of, LINE, "aaa"), "dab")
        self.assertEqual(told(next_of, LINE, "dab"), "deb")
        self.assertEqual(told(next_of, LINE, "dbf"), "deb")
        self.assertIsNone(told(next_of, LINE, "deb"))

    def test_as_worked_out_plainly(self):
        for book in BOOKS:
            for length in range(4):
                texts = plain_texts(book, length)
                for text in strings(length, "abdf"):
                    with self.subTest(book=book, text=text):
                        greater = [other for other in texts if other > text]
                        self.assertEqual(next_of(book, text), min(greater, default=None))

    def test_twenty_four_signs(self):
        self.assertEqual(told(next_of, BOOK, "f" + "a" * 23), None)
        self.assertEqual(told(next_of, BOOK, "ac" * 12), "ac" * 11 + "ba")
        self.assertEqual(told(next_of, BOOK, "a" + "d" * 23), "b" + "a" * 23)
        self.assertIsNone(told(next_of, BOOK, "bc" * 12))
        self.assertEqual(told(next_of, BOOK, "ba" * 12), "ba" * 11 + "bc")
        self.assertEqual(told(next_of, ALL, "a" + "f" * 23), "b" + "a" * 23)
        self.assertIsNone(told(next_of, ALL, "f" * 24))
        self.assertIsNone(told(next_of, cycle(5, (0,)), "a" * 24))


class EqualCallsTest(unittest.TestCase):
    def test_equal_calls_return_equal_results(self):
        for book in BOOKS[:20]:
            like = (int(str(book[0])), tuple([tuple(list(door)) for door in book[1]]), tuple(list(book[2])))
            self.assertEqual(count_of(book, 24), count_of(like, 24))
            for text in strings(2, "abc"):
                self.assertEqual(next_of(book, text), next_of(like, text))
                self.assertEqual(room_after(book, text), room_after(like, text))

    def test_any_object(self):
        for thing in other_kinds():
            self.assertIs(type(is_book(thing)), bool)


if __name__ == "__main__":
    unittest.main()
