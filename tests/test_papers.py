"""Points 3 and 15: reading papers."""

import random
import unittest

from tests.plain import ALL, ASTRAY, BOOK, LINE, NOTHING, ONLY_EMPTY, TWELVE
from tests.plain import bad_books, check_kinds, cycle, plain_readings, some_books, told
from tests.things import CHAIN, EXAMPLE, Odd, RING, SEEN, bad_strs, bad_wears, nested, other_kinds, some_wears
from wornstones.books import is_book
from wornstones.errors import BadBook, BadRow, BadWear
from wornstones.papers import reading_paper, reading_paper_holds
from wornstones.readings import count_readings

PAPER = [[(0, 4)], [(1, 2)], [(0, 1)]]
# From room 0 all rooms but 3 and 4 come; 2 leads to no end, and 4 to no room of its own.
BRANCHES = (5, ((0, "a", 1), (0, "b", 2), (1, "a", 0), (1, "b", 1), (2, "f", 2), (3, "a", 0)), (0, 4))


def some_cases(many):
    """As many books, wears and rows, the same ones in each run."""
    chance = random.Random(15)
    books = [BOOK, ALL, ASTRAY, LINE, ONLY_EMPTY, NOTHING, BRANCHES] + some_books(20, letters="abce")
    wears = some_wears(30)
    return [(chance.choice(books), chance.choice(wears), "".join(chance.choices("???..aabce", k=number % 5)))
            for number in range(many)]


CASES = [(BOOK, EXAMPLE, "a."), (BRANCHES, (), "????"), (BRANCHES, EXAMPLE, "a??")] + some_cases(200)


def plain_paper(book, wear, row):
    """The lists of the rooms that come, each with its number, by trying all texts."""
    rooms = {0}
    lists = []
    for place in range(len(row) + 1):
        lists.append([(room, number_from(book, wear, row[place:], room)) for room in sorted(rooms)])
        if place < len(row):
            signs = [text for text, _ in plain_readings(ALL, wear, row[place])]
            rooms = {behind for first, sign, behind in book[1] if first in rooms and sign in signs}
    return lists


def number_from(book, wear, row, start):
    """How many ways from a room along a row lead to an end: the readings by the book that begins in this room."""
    new = {room: room for room in range(book[0])}
    new[0], new[start] = start, 0
    doors = tuple(sorted((new[room], sign, new[behind]) for room, sign, behind in book[1]))
    turned = (book[0], doors, tuple(sorted(new[room] for room in book[2])))
    return len(plain_readings(turned, wear, row))


def with_entry(paper, place, at, entry):
    """A copy of a paper with another entry in one place."""
    changed = [list(some) for some in paper]
    changed[place][at] = entry
    return changed


class ReadingPaperTest(unittest.TestCase):
    def test_the_example(self):
        self.assertEqual(told(reading_paper, BOOK, EXAMPLE, "a."), PAPER)
        self.assertIs(told(reading_paper_holds, BOOK, EXAMPLE, "a.", 4, PAPER), True)
        self.assertEqual(told(reading_paper, BOOK, EXAMPLE, "aa."), [[(0, 0)], [(1, 0)], [(0, 0)], [(1, 0)]])
        self.assertEqual(told(reading_paper, BRANCHES, (), "??"), [[(0, 1)], [(1, 1), (2, 0)], [(0, 1), (1, 0), (2, 0)]])

    def test_rows_without_signs(self):
        self.assertEqual(told(reading_paper, BOOK, EXAMPLE, ""), [[(0, 1)]])
        self.assertEqual(told(reading_paper, LINE, EXAMPLE, ""), [[(0, 0)]])
        self.assertIs(told(reading_paper_holds, BOOK, EXAMPLE, "", 1, [[(0, 1)]]), True)
        self.assertIs(told(reading_paper_holds, BOOK, EXAMPLE, "", 0, [[(0, 0)]]), False)
        self.assertIs(told(reading_paper_holds, LINE, EXAMPLE, "", 0, [[(0, 0)]]), True)
        self.assertIs(told(reading_paper_holds, LINE, EXAMPLE, "", 1, [[(0, 1)]]), False)
        self.assertIs(told(reading_paper_holds, LINE, EXAMPLE, "", 0, []), False)
        self.assertIs(told(reading_paper_holds, LINE, EXAMPLE, "", 0, [[]]), False)

    def test_rows_without_a_reading(self):
        self.assertEqual(told(reading_paper, NOTHING, CHAIN, "???"), [[(0, 0)], [], [], []])
        self.assertEqual(told(reading_paper, BOOK, EXAMPLE, "d?a"), [[(0, 0)], [], [], []])
        self.assertEqual(told(reading_paper, ASTRAY, (), "ce"), [[(0, 0)], [(2, 0)], []])
        self.assertIs(told(reading_paper_holds, NOTHING, CHAIN, "???", 0, [[(0, 0)], [], [], []]), True)
        self.assertIs(told(reading_paper_holds, NOTHING, CHAIN, "???", 1, [[(0, 1)], [], [], []]), False)

    def test_as_worked_out_plainly(self):
        for book, wear, row in CASES:
            with self.subTest(book=book, wear=wear, row=row):
                paper = told(reading_paper, book, wear, row)
                self.assertEqual(paper, plain_paper(book, wear, row))
                self.assertEqual(paper[0], [(0, count_readings(book, wear, row))])

    def test_it_holds_for_its_count_alone(self):
        for book, wear, row in CASES:
            paper = reading_paper(book, wear, row)
            count = count_readings(book, wear, row)
            with self.subTest(book=book, wear=wear, row=row):
                for number in (count, count + 1, count - 1, -1, 0, 10 ** 59, -10 ** 59):
                    self.assertIs(told(reading_paper_holds, book, wear, row, number, paper), number == count)
                    other = [[(0, number)]] + paper[1:]
                    self.assertIs(reading_paper_holds(book, wear, row, number, other), number == count)

    def test_twenty_four_signs(self):
        for book, wear, row in ((ALL, CHAIN, "." * 24), (TWELVE, RING, "?" * 24), (BOOK, EXAMPLE, "a.?." * 6),
                                (cycle(12, (0,)), RING, "a" * 24), (cycle(11, (0,)), RING, "abc" * 8)):
            paper = told(reading_paper, book, wear, row)
            count = count_readings(book, wear, row)
            self.assertEqual(len(paper), 25)
            self.assertEqual(paper[0], [(0, count)])
            self.assertEqual(paper, [sorted(some) for some in paper])
            self.assertIs(reading_paper_holds(book, wear, row, count, paper), True)
            self.assertIs(reading_paper_holds(book, wear, row, count + 1, [[(0, count + 1)]] + paper[1:]), False)
            self.assertIs(reading_paper_holds(book, wear, row, count, paper[:-1]), False)
            self.assertIs(reading_paper_holds(book, wear, row, count, paper + [paper[-1]]), False)
        self.assertEqual(reading_paper(ALL, CHAIN, "." * 24), [[(0, 6 ** (24 - place))] for place in range(25)])

    def test_the_lists_are_new(self):
        paper = reading_paper(NOTHING, CHAIN, "???")
        self.assertIsNot(paper[1], paper[2])
        paper[1].append(3)
        self.assertEqual(paper[2:], [[], []])
        self.assertEqual(reading_paper(NOTHING, CHAIN, "???")[1], [])


class HoldsTest(unittest.TestCase):
    def check(self, thing, holds=False, book=BOOK, wear=EXAMPLE, row="a.", number=4):
        with self.subTest(thing=repr(thing) if holds else None):
            self.assertIs(reading_paper_holds(book, wear, row, number, thing), holds)

    def test_rooms_in_another_order(self):
        paper = reading_paper(BRANCHES, (), "????")
        count = count_readings(BRANCHES, (), "????")
        self.assertGreater(len(paper[2]), 2)
        for seed in range(20):
            mixed = [list(some) for some in paper]
            for some in mixed:
                random.Random(seed).shuffle(some)
            self.assertIs(told(reading_paper_holds, BRANCHES, (), "????", count, mixed), True)

    def test_other_rooms_that_hold(self):
        # Room 0 at the place 1 leads to room 1, which is no end; room 1 is no end at the last place.
        self.check([[(0, 4)], [(1, 2), (0, 0)], [(0, 1), (1, 0)]], True)
        self.check([[(0, 4)], [(0, 0), (1, 2)], [(1, 0), (0, 1)]], True)
        self.check([[(0, 4)], [(1, 2)], [(1, 0), (0, 1)]], True)
        self.check([[(0, 4)], [(1, 2), (0, 0)], [(0, 1)]])
        self.check([[(0, 4)], [(1, 2), (0, 1)], [(0, 1), (1, 0)]])
        self.check([[(0, 4)], [(1, 2), (0, 0)], [(0, 1), (1, 1)]])
        # In the first list just (0, number) stands.
        self.check([[(0, 4), (1, 0)], [(1, 2), (0, 0)], [(0, 1), (1, 0)]])
        self.check([[(0, 4), (0, 4)], [(1, 2)], [(0, 1)]])
        self.check([[], [(1, 2)], [(0, 1)]])
        self.check([[(1, 4)], [(1, 2)], [(0, 1)]])

    def test_other_rooms_without_doors(self):
        paper = reading_paper(BRANCHES, (), "a?")
        self.assertEqual(paper, [[(0, 1)], [(1, 1)], [(0, 1), (1, 0)]])
        for extra, holds in (((2, 0), False), ((4, 0), True), ((3, 1), True), ((3, 0), False), ((4, 1), False)):
            changed = [paper[0], paper[1] + [extra], paper[2]]
            self.assertIs(reading_paper_holds(BRANCHES, (), "a?", 1, changed), holds)
        for extra, holds in (((2, 0), True), ((4, 1), True), ((3, 0), True), ((3, 1), False), ((4, 0), False)):
            changed = [paper[0], paper[1], paper[2] + [extra]]
            self.assertIs(reading_paper_holds(BRANCHES, (), "a?", 1, changed), holds)

    def test_one_thing_wrong(self):
        self.check(PAPER, True)
        self.check([[(0, 4)], [(1, 2), (1, 2)], [(0, 1)]])
        self.check([[(0, 4)], [(1, 2)], [(0, 1), (0, 1)]])
        self.check([[(0, 4)], [(1, 2)], []])
        self.check([[(0, 4)], [], [(0, 1)]])
        self.check([[(0, 4)], [(1, 2)]])
        self.check([[(0, 4)], [(1, 2)], [(0, 1)], []])
        self.check([[(0, 4)], [(1, 3)], [(0, 1)]])
        self.check([[(0, 4)], [(1, 2)], [(0, 2)]])
        self.check([[(0, 4)], [(1, 2)], [(0, 0)]])
        self.check([[(0, 5)], [(1, 2)], [(0, 1)]], number=5)
        self.check([[(0, 3)], [(1, 2)], [(0, 1)]], number=3)
        # All sums hold, but room 0 is an end.
        self.check([[(0, 8)], [(1, 4)], [(0, 2)]], number=8)
        self.check([[(0, 0)], [(1, 0)], [(0, 0)]], number=0)

    def test_entries_of_other_kinds(self):
        wrong = [(True, 1), (False, 1), (0, True), (0, False), (-1, 0), (2, 0), (10 ** 59, 0), (0, -1), (0, None),
                 (None, 1), ("0", 1), (0, "1"), (0,), (0, 1, 1), (), [0, 1], "01", None, 0, Odd(), (Odd(), 1), (0, Odd()),
                 ((0,), 1), (0, (1,)), (0j, 1), (0, 1j), nested(90), [], {}]
        for entry in wrong:
            self.check(with_entry(PAPER, 2, 0, entry))
            self.check(with_entry(PAPER, 1, 0, entry))
            self.check(with_entry(PAPER, 0, 0, entry))
            self.check([PAPER[0], PAPER[1] + [entry], PAPER[2]])
            self.check([PAPER[0], PAPER[1], PAPER[2] + [entry]])
            self.check([PAPER[0], PAPER[1], [entry] + PAPER[2]])

    def test_a_bool_in_the_place_of_an_integer(self):
        self.check([[(False, 4)], [(1, 2)], [(0, 1)]])
        self.check([[(0, 4)], [(True, 2)], [(0, 1)]])
        self.check([[(0, 4)], [(1, 2)], [(0, True)]])
        self.check([[(0, True)]], book=ONLY_EMPTY, row="", number=1)
        self.check([[(0, False)]], book=NOTHING, row="", number=0)
        self.check([[(0, 4)], [(1, 2), (0, False)], [(0, 1), (1, 0)]])

    def test_negative_numbers(self):
        # They are no numbers of a paper, also where the sums hold.
        loop = (2, ((1, "a", 1),), ())
        self.check([[(0, 0)], [(1, 0)], [(1, 0)]], True, book=loop, wear=(), row="aa", number=0)
        self.check([[(0, 0)], [(1, -1)], [(1, -1)]], book=loop, wear=(), row="aa", number=0)

    def test_lists_and_tuples(self):
        self.check([((0, 4),), [(1, 2)], [(0, 1)]])
        self.check([[(0, 4)], ((1, 2),), [(0, 1)]])
        self.check(([(0, 4)], [(1, 2)], [(0, 1)]))
        self.check([[[0, 4]], [(1, 2)], [(0, 1)]])
        self.check([[(0, 4)], [(1, 2)], [[0, 1]]])
        self.check(tuple(tuple(some) for some in PAPER))

    def test_any_object(self):
        for thing in other_kinds() + ["", "ab", (), [], [[]], [[], [], []], nested(90), [nested(90)] * 3]:
            self.check(thing)
        for thing in other_kinds() + ["", "ab", (), nested(90)]:
            for place in range(3):
                changed = list(PAPER)
                changed[place] = thing
                self.check(changed)

    def test_kinds(self):
        first = [(BadBook, bad_books()), (BadWear, bad_wears()), (BadRow, bad_strs(SEEN))]
        check_kinds(self, reading_paper, [BOOK, EXAMPLE, "a."], first)
        for thing in (PAPER, None, Odd()):
            for place, (error, wrong) in enumerate(first):
                for bad in wrong[::7]:
                    given = [BOOK, EXAMPLE, "a.", 4, thing]
                    given[place] = bad
                    with self.assertRaises(error):
                        reading_paper_holds(*given)

    def test_the_paper_of_another_row(self):
        for book, wear, row in CASES:
            self.assertIs(is_book(book), True)
            paper = reading_paper(book, wear, row)
            count = count_readings(book, wear, row)
            for place in range(len(paper)):
                for at, (room, many) in enumerate(paper[place]):
                    for entry in ((room, many + 1), (room, many - 1)):
                        self.check(with_entry(paper, place, at, entry), False, book, wear, row, count)
                    short = [list(some) for some in paper]
                    del short[place][at]
                    self.check(short, False, book, wear, row, count)


if __name__ == "__main__":
    unittest.main()
