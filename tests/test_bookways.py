"""Point 9: books beside books, least books, shortest texts, lengths."""

import unittest

from tests.plain import ALL, ASTRAY, BOOK, LINE, NOTHING, ONLY_EMPTY, TWELVE
from tests.plain import bad_books, check_kinds, cycle, plain_after, plain_texts, shuffled, some_books, strings, told
from tests.things import LETTERS
from wornstones.books import is_book
from wornstones.bookways import both_books, books_apart, either_book, least_book, lengths_of, shortest_of
from wornstones.errors import BadBook, TooMany

NAMED = [BOOK, NOTHING, ONLY_EMPTY, ALL, ASTRAY, LINE, cycle(3, (1,)), cycle(2, ()), (2, (), (1,)), (2, (), (0, 1))]
SMALL = some_books(60, most=3, letters="abc")
BOOKS = NAMED + SMALL + some_books(20)
FULL = (12, tuple((room, sign, room) for room in range(12) for sign in LETTERS), ())


def plain_apart(book, other, longest):
    """The first of the shortest texts of up to so many signs that are of one book alone, or None."""
    signs = sorted({sign for _, sign, _ in book[1] + other[1]})
    for length in range(longest + 1):
        for text in strings(length, signs):
            if (plain_after(book, text) in book[2]) != (plain_after(other, text) in other[2]):
                return text
    return None


def plain_residuals(book):
    """How many different sets of texts lead on from the rooms that are met, empty ones left out."""
    rooms, doors, ends = book
    met = {0}
    for _ in range(rooms):
        met |= {behind for room, _, behind in doors if room in met}
    # What is kept of a room is the tree of the texts of so many signs that lead on to ends.
    groups = {room: (room in ends, ()) for room in range(rooms)}
    for _ in range(rooms):
        groups = {room: (room in ends, tuple((sign, groups[behind]) for first, sign, behind in doors
                                             if first == room and any_end(groups[behind])))
                  for room in range(rooms)}
    return len({groups[room] for room in met if any_end(groups[room])})


def any_end(group):
    """Whether an end is in what plain_residuals keeps of a room."""
    return group[0] or any(any_end(behind) for _, behind in group[1])


def plain_numbered(book):
    """The rooms in the order in which they are first come to."""
    order = [0]
    for room in order:
        for first, _, behind in book[1]:
            if first == room and behind not in order:
                order.append(behind)
    return order


class KindsTest(unittest.TestCase):
    def test_bad_book(self):
        books = (BadBook, bad_books())
        for function in (books_apart, both_books, either_book):
            check_kinds(self, function, [BOOK, LINE], [books, books])
        for function in (least_book, shortest_of, lengths_of):
            check_kinds(self, function, [BOOK], [books])

    def test_bad_book_ahead_of_too_many(self):
        for function in (both_books, either_book):
            with self.assertRaises(BadBook):
                function(cycle(11, (0,)), (13, (), ()))


class BooksApartTest(unittest.TestCase):
    def test_ordinary_ones(self):
        self.assertEqual(told(books_apart, BOOK, LINE), "")
        self.assertEqual(told(books_apart, NOTHING, LINE), "dab")
        self.assertEqual(told(books_apart, LINE, NOTHING), "dab")
        self.assertEqual(told(books_apart, ONLY_EMPTY, BOOK), "aa")
        self.assertEqual(told(books_apart, ALL, BOOK), "a")
        self.assertEqual(told(books_apart, cycle(6, (0, 2, 4)), cycle(2, (0,))), None)
        self.assertEqual(told(books_apart, cycle(3, (0,)), cycle(2, (0,))), "aa")
        self.assertEqual(told(books_apart, cycle(2, (0,)), cycle(2, (0,), "b")), "aa")
        self.assertEqual(told(books_apart, cycle(2, (0,), "f"), cycle(2, (0,), "b")), "bb")

    def test_long_ones(self):
        self.assertEqual(told(books_apart, cycle(11, range(10)), cycle(12, range(11))), "a" * 10)
        self.assertEqual(told(books_apart, cycle(12, (11,)), cycle(11, ())), "a" * 11)
        self.assertEqual(told(books_apart, cycle(8, (7,)), cycle(9, (7,))), "a" * 15)
        self.assertEqual(told(books_apart, both_books(cycle(3, (2,)), cycle(4, (3,))), NOTHING), "a" * 11)
        # Lengths that are alike up to the last but one that two rings can have in common.
        alike = {0}
        for _ in range(21):
            alike |= {near for length in alike for step in (11, 12) for near in (length - step, length + step)
                      if 0 <= near < 21}
        one = cycle(11, [room for room in range(11) if room in alike])
        other = cycle(12, [room for room in range(12) if room in alike])
        self.assertEqual(told(books_apart, one, other), plain_apart(one, other, 30))
        self.assertEqual(told(books_apart, one, other), "a" * 21)

    def test_as_worked_out_plainly(self):
        for one, other in zip(SMALL, SMALL[1:] + SMALL[:1]):
            apart = plain_apart(one, other, 6)
            with self.subTest(one=one, other=other):
                self.assertEqual(told(books_apart, one, other), apart)
                self.assertEqual(books_apart(other, one), apart)

    def test_the_same_texts_written_otherwise(self):
        for seed, book in enumerate(BOOKS):
            with self.subTest(book=book):
                self.assertIsNone(told(books_apart, book, book))
                self.assertIsNone(books_apart(book, shuffled(book, seed)))
                self.assertIsNone(books_apart(shuffled(book, seed), book))


class LeastBookTest(unittest.TestCase):
    def test_ordinary_ones(self):
        self.assertEqual(told(least_book, BOOK), BOOK)
        self.assertEqual(told(least_book, ALL), ALL)
        self.assertEqual(told(least_book, ONLY_EMPTY), ONLY_EMPTY)
        self.assertEqual(told(least_book, LINE), LINE)
        self.assertEqual(told(least_book, cycle(6, (0, 2, 4))), cycle(2, (0,)))
        self.assertEqual(told(least_book, cycle(12, range(12))), (1, ((0, "a", 0),), (0,)))
        self.assertEqual(told(least_book, ASTRAY), (2, ((0, "a", 1), (1, "b", 0)), (1,)))

    def test_without_a_text(self):
        for book in (NOTHING, (1, ((0, "a", 0),), ()), (12, (), (1, 11)), (3, ((0, "a", 1), (2, "a", 0)), (2,)), FULL):
            self.assertEqual(told(least_book, book), (1, (), ()))
            self.assertIs(type(told(least_book, book)[0]), int)

    def test_rooms_are_numbered_as_they_are_come_to(self):
        book = (4, ((0, "b", 3), (0, "e", 1), (1, "c", 1), (3, "a", 2), (3, "d", 0)), (1, 2))
        self.assertEqual(told(least_book, book),
                         (4, ((0, "b", 1), (0, "e", 2), (1, "a", 3), (1, "d", 0), (2, "c", 2)), (2, 3)))
        book = (3, ((0, "a", 2), (0, "b", 1), (1, "a", 1), (2, "b", 1)), (1,))
        self.assertEqual(told(least_book, book), (3, ((0, "a", 1), (0, "b", 2), (1, "b", 2), (2, "a", 2)), (2,)))

    def test_no_door_leads_where_no_end_is_reached(self):
        book = (3, ((0, "a", 1), (0, "b", 2), (1, "c", 2), (2, "a", 2)), (0, 1))
        self.assertEqual(told(least_book, book), (2, ((0, "a", 1),), (0, 1)))
        # Rooms that differ only by doors that lead nowhere are alike.
        book = (4, ((0, "a", 1), (0, "b", 2), (1, "c", 3)), (1, 2))
        self.assertEqual(told(least_book, book), (2, ((0, "a", 1), (0, "b", 1)), (1,)))

    def test_each_book(self):
        for seed, book in enumerate(BOOKS):
            least = told(least_book, book)
            with self.subTest(book=book):
                self.assertIs(is_book(least), True)
                self.assertEqual(least[0], max(plain_residuals(book), 1))
                self.assertEqual(plain_numbered(least), list(range(least[0])))
                self.assertEqual(least_book(least), least)
                self.assertEqual(least_book(shuffled(book, seed)), least)
                for length in range(4):
                    self.assertEqual(plain_texts(least, length), plain_texts(book, length))
                self.assertIsNone(books_apart(least, book))

    def test_twelve_rooms(self):
        self.assertEqual(told(least_book, cycle(12, (11,))), cycle(12, (11,)))
        least = told(least_book, TWELVE)
        self.assertEqual(least[0], plain_residuals_of_twelve())
        self.assertIsNone(books_apart(least, TWELVE))


def plain_residuals_of_twelve():
    """How many rooms of TWELVE, all of which are met, are told apart by texts of at most three signs."""
    texts = [text for length in range(4) for text in strings(length)]
    held = set()
    for start in range(12):
        doors = {(room, sign): behind for room, sign, behind in TWELVE[1]}
        ends = []
        for text in texts:
            room = start
            for sign in text:
                room = doors[(room, sign)]
            ends.append(room in TWELVE[2])
        held.add(tuple(ends))
    return len(held)


class BothAndEitherTest(unittest.TestCase):
    def test_ordinary_ones(self):
        self.assertEqual(told(both_books, cycle(2, (0,)), cycle(3, (0,))), cycle(6, (0,)))
        self.assertEqual(told(either_book, cycle(2, (0,)), cycle(3, (0,))), cycle(6, (0, 2, 3, 4)))
        self.assertEqual(told(both_books, BOOK, ALL), BOOK)
        self.assertEqual(told(either_book, BOOK, ALL), ALL)
        self.assertEqual(told(both_books, BOOK, LINE), NOTHING)
        self.assertEqual(told(either_book, NOTHING, LINE), LINE)
        self.assertEqual(told(either_book, LINE, NOTHING), LINE)
        self.assertEqual(told(both_books, NOTHING, ALL), NOTHING)
        self.assertEqual(told(either_book, NOTHING, FULL), NOTHING)
        self.assertEqual(told(either_book, ONLY_EMPTY, cycle(2, (1,))),
                         (3, ((0, "a", 1), (1, "a", 2), (2, "a", 1)), (0, 1)))

    def test_a_book_and_itself(self):
        for book in BOOKS:
            least = least_book(book)
            self.assertEqual(told(both_books, book, book), least)
            self.assertEqual(told(either_book, book, book), least)

    def test_as_worked_out_plainly(self):
        for one, other in zip(SMALL, SMALL[7:] + SMALL[:7]):
            both = told(both_books, one, other)
            either = told(either_book, one, other)
            with self.subTest(one=one, other=other):
                self.assertEqual(least_book(both), both)
                self.assertEqual(least_book(either), either)
                self.assertEqual(both_books(other, one), both)
                self.assertEqual(either_book(other, one), either)
                for length in range(6):
                    first = set(plain_texts(one, length))
                    second = set(plain_texts(other, length))
                    self.assertEqual(plain_texts(both, length), sorted(first & second))
                    self.assertEqual(plain_texts(either, length), sorted(first | second))

    def test_twelve_rooms_and_more(self):
        self.assertEqual(told(both_books, cycle(3, (0,)), cycle(4, (0,))), cycle(12, (0,)))
        ends = [room for room in range(12) if room in (0, 3, 6, 9, 4, 8)]
        self.assertEqual(told(either_book, cycle(3, (0,)), cycle(4, (0,))), cycle(12, ends))
        for one, other in ((2, 7), (3, 5), (11, 12)):
            for function in (both_books, either_book):
                with self.assertRaises(TooMany):
                    function(cycle(one, (0,)), cycle(other, (0,)))

    def test_just_the_least_book_counts(self):
        # So many pairs of rooms are met, but the least book is small.
        self.assertEqual(told(both_books, cycle(11, (0,)), cycle(12, ())), NOTHING)
        self.assertEqual(told(either_book, cycle(11, range(11)), cycle(12, (3, 5))), (1, ((0, "a", 0),), (0,)))
        self.assertEqual(told(both_books, cycle(12, range(12)), cycle(11, (4,))), cycle(11, (4,)))
        self.assertEqual(told(both_books, cycle(12, (0, 4, 8)), cycle(9, (0, 3, 6))), cycle(12, (0,)))
        self.assertEqual(told(either_book, cycle(12, (0, 6)), cycle(8, (0, 2, 4, 6))), cycle(2, (0,)))

    def test_thirteen_rooms(self):
        two = (3, ((0, "b", 1), (1, "b", 2)), (2,))
        self.assertEqual(told(either_book, chain(11), two)[0], 12)
        with self.assertRaises(TooMany):
            either_book(chain(12), two)
        # One sign alone needs no room of its own.
        self.assertEqual(told(either_book, chain(12), (2, ((0, "b", 1),), (1,)))[0], 12)


def chain(many):
    """A book of so many rooms with one text, of one sign less."""
    doors = tuple((room, "a", room + 1) for room in range(many - 1))
    return (many, doors, (many - 1,))


class LengthsTest(unittest.TestCase):
    def test_shortest_of(self):
        self.assertEqual(told(shortest_of, BOOK), "")
        self.assertEqual(told(shortest_of, LINE), "dab")
        self.assertEqual(told(shortest_of, ASTRAY), "a")
        self.assertEqual(told(shortest_of, ONLY_EMPTY), "")
        self.assertEqual(told(shortest_of, chain(12)), "a" * 11)
        self.assertEqual(told(shortest_of, (3, ((0, "a", 1), (0, "b", 2), (1, "a", 2)), (2,))), "b")
        for book in (NOTHING, FULL, (2, ((1, "a", 1),), (1,))):
            self.assertIsNone(told(shortest_of, book))

    def test_shortest_as_worked_out_plainly(self):
        for book in BOOKS:
            found = [text for length in range(5) for text in plain_texts(book, length)[:1]]
            with self.subTest(book=book):
                self.assertEqual(told(shortest_of, book), found[0] if found else None)
                self.assertEqual(shortest_of(book), books_apart(book, NOTHING))

    def test_lengths_of(self):
        self.assertEqual(told(lengths_of, BOOK), list(range(0, 25, 2)))
        self.assertEqual(told(lengths_of, ALL), list(range(25)))
        self.assertEqual(told(lengths_of, LINE), [3])
        self.assertEqual(told(lengths_of, ONLY_EMPTY), [0])
        self.assertEqual(told(lengths_of, cycle(12, (0,))), [0, 12, 24])
        self.assertEqual(told(lengths_of, cycle(11, (2,))), [2, 13, 24])
        self.assertEqual(told(lengths_of, cycle(11, (3,))), [3, 14])
        self.assertEqual(told(lengths_of, ASTRAY), list(range(1, 25, 2)))
        for book in (NOTHING, FULL, (2, ((1, "a", 1),), (1,))):
            self.assertEqual(told(lengths_of, book), [])

    def test_lengths_as_worked_out_plainly(self):
        for book in BOOKS:
            rooms = {0}
            lengths = []
            for length in range(25):
                if any(room in book[2] for room in rooms):
                    lengths.append(length)
                rooms = {behind for room, _, behind in book[1] if room in rooms}
            with self.subTest(book=book):
                self.assertEqual(told(lengths_of, book), lengths)
                self.assertIsNot(lengths_of(book), lengths_of(book))


if __name__ == "__main__":
    unittest.main()
