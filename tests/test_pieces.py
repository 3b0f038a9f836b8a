"""Points 22 and 23: pieces of a page, and how they can have lain in it."""

import itertools
import random
import unittest

from tests.plain import ALL, ASTRAY, BOOK, LINE, NOTHING, ONLY_EMPTY
from tests.plain import bad_books, check_kinds, cycle, plain_sum, plain_texts, some_books, told
from tests.things import CHAIN, EXAMPLE, Odd, bad_wears, plain_steps, some_wears
from tests.wrong import bad_pieces, bad_sizes
from wornstones.errors import BadBook, BadPieces, BadSize, BadWear, TooMany
from wornstones.pieces import all_layings, laying_counts, layings, sure_laying, sure_page, telling_pieces

OF_ALL = (layings, laying_counts, sure_laying, sure_page, telling_pieces)


# The signs a, b and c by turns, beginning with any of them.
TURNS = (4, ((0, "a", 1), (0, "b", 2), (0, "c", 3), (1, "b", 2), (2, "c", 3), (3, "a", 1)), (1, 2, 3))


def plain_taken(size, piece, spot):
    """The places under a piece, None if it does not lie in the page whole."""
    lines, width = size
    places = [(spot[0] + at, spot[1] + column) for at, row in enumerate(piece) for column in range(len(row))]
    return places if all(line < lines and column < width for line, column in places) else None


def plain_layings(size, pieces):
    """What all_layings tells, by trying all spots of the page for each piece."""
    spots = [(line, column) for line in range(size[0]) for column in range(size[1])]
    found = []
    for laying in itertools.product(spots, repeat=len(pieces)):
        taken = [plain_taken(size, piece, spot) for piece, spot in zip(pieces, laying)]
        if None not in taken:
            places = [place for some in taken for place in some]
            if len(set(places)) == len(places):
                found.append(laying)
    return found


def plain_row(size, pieces, laying):
    """The row of the page, place by place."""
    signs = {}
    for piece, (line, column) in zip(pieces, laying):
        for at, row in enumerate(piece):
            for behind, seen in enumerate(row):
                signs[(line + at, column + behind)] = seen
    return "".join(signs.get((line, column), "?") for line in range(size[0]) for column in range(size[1]))


def plain_texts_laid(book, wear, size, pieces):
    """A list of (laying, texts) for the layings with a reading."""
    texts = plain_texts(book, size[0] * size[1])
    steps = plain_steps(wear)
    rows = [(laying, plain_row(size, pieces, laying)) for laying in plain_layings(size, pieces)]
    found = [(laying, [text for text in texts if plain_sum(steps, text, row) is not None]) for laying, row in rows]
    return [(laying, some) for laying, some in found if some]


def plain_page(size, found):
    """What sure_page tells, by the layings and their texts."""
    texts = [text for _, some in found for text in some]
    if not texts:
        return None
    signs = [{text[place] for text in texts} for place in range(size[0] * size[1])]
    row = "".join(sorted(some)[0] if len(some) == 1 else "?" for some in signs)
    return tuple(row[size[1] * line:size[1] * (line + 1)] for line in range(size[0]))


def number_sure(page):
    return len("".join(page).replace("?", ""))


def plain_telling(book, wear, size, pieces, page):
    """What telling_pieces tells."""
    found = []
    for at in range(len(pieces) if page is not None else 0):
        rest = pieces[:at] + pieces[at + 1:]
        other = plain_page(size, plain_texts_laid(book, wear, size, rest))
        if number_sure(other) < number_sure(page):
            found.append(at)
    return found


def some_pieces(chance, letters, most=3):
    """One to three small pieces."""
    pieces = []
    for _ in range(chance.randint(1, most)):
        length = chance.choice([1, 1, 1, 2, 2, 3])
        rows = chance.choice([1, 1, 1, 2])
        pieces.append(tuple("".join(chance.choices(letters, k=length)) for _ in range(rows)))
    return tuple(pieces)


def some_cases(many):
    """As many books, wears, sizes and pieces, the same ones in each run."""
    chance = random.Random(22)
    books = [BOOK, BOOK, LINE, ASTRAY, NOTHING, ONLY_EMPTY, cycle(3, (0,))] + some_books(12, letters="abc")
    wears = [(), EXAMPLE, EXAMPLE] + some_wears(15)
    sizes = [(1, 1), (1, 2), (2, 1), (2, 2), (1, 4), (4, 1), (2, 3), (3, 2), (1, 6)]
    cases = [(chance.choice(books), chance.choice(wears), chance.choice(sizes), some_pieces(chance, "?..abc"))
             for _ in range(many)]
    for book in [BOOK, LINE, TURNS] * (many // 3):
        size = chance.choice([size for size in sizes if plain_texts(book, size[0] * size[1])] or sizes)
        cases.append((book, chance.choice(wears[:4]), size, cut_out(chance, book, size)))
    return cases


def cut_out(chance, book, size):
    """Two or three pieces of one row, as they are cut out of a page with a text of the book."""
    text = chance.choice(plain_texts(book, size[0] * size[1]) or ["a" * (size[0] * size[1])])
    pieces = []
    for _ in range(chance.randint(2, 3)):
        line, begin = chance.randrange(size[0]), chance.randrange(size[1])
        whole = text[line * size[1]:(line + 1) * size[1]]
        pieces.append((whole[begin:begin + chance.randint(1, 3)],))
    return tuple(pieces)


CASES = some_cases(220)


class AllLayingsTest(unittest.TestCase):
    def test_by_hand(self):
        self.assertEqual(told(all_layings, (1, 1), (("a",),)), [((0, 0),)])
        self.assertEqual(told(all_layings, (2, 2), (("a",),)), [((0, 0),), ((0, 1),), ((1, 0),), ((1, 1),)])
        self.assertEqual(told(all_layings, (2, 3), (("ab",), ("?.", "cd"))), [])
        self.assertEqual(told(all_layings, (2, 4), (("ab",), ("?.", "cd"))),
                         [((0, 0), (0, 2)), ((0, 2), (0, 0)), ((1, 0), (0, 2)), ((1, 2), (0, 0))])
        self.assertEqual(told(all_layings, (3, 1), (("a", "b"), ("c",))), [((0, 0), (2, 0)), ((1, 0), (0, 0))])

    def test_like_pieces_are_told_apart(self):
        self.assertEqual(told(all_layings, (1, 2), (("a",), ("a",))), [((0, 0), (0, 1)), ((0, 1), (0, 0))])
        self.assertEqual(len(told(all_layings, (1, 4), (("?",), ("?",), ("?",)))), 24)

    def test_what_is_broken_off_takes_its_place(self):
        self.assertEqual(told(all_layings, (1, 2), (("a?",), ("b",))), [])
        self.assertEqual(told(all_layings, (1, 3), (("a?",), ("b",))), [((0, 0), (0, 2)), ((0, 1), (0, 0))])

    def test_pieces_that_do_not_fit(self):
        for size, pieces in (((1, 1), (("ab",),)), ((1, 6), (("a", "b"),)), ((2, 6), (("a", "b", "c"),)),
                             ((4, 5), (("abcdef",),)), ((4, 6), (("a",), ("b",), ("abcdef", "abcdef", "abcdef"),)),
                             ((1, 1), (("a",), ("b",))), ((3, 6), (("a",), ("abcdef",) * 3))):
            with self.subTest(size=size, pieces=pieces):
                some = plain_layings(size, pieces)
                self.assertEqual(told(all_layings, size, pieces), some)
                self.assertEqual(len(some), 60 if size == (4, 6) else 0)

    def test_as_worked_out_plainly(self):
        chance = random.Random(23)
        for number in range(150):
            size = (chance.randint(1, 4), chance.randint(1, 3) if number % 3 else chance.randint(1, 6))
            pieces = some_pieces(chance, "abcdef?.", 2 if size[0] * size[1] > 9 else 3)
            with self.subTest(size=size, pieces=pieces):
                self.assertEqual(told(all_layings, size, pieces), plain_layings(size, pieces))

    def test_just_one_thousand_and_more(self):
        # No pieces lie in a page in just 1000 ways; 988 and 1008 are the numbers beside it.
        told_numbers = set()
        for size, pieces in ([((4, 6), (("a",), ("bc",), ("def",) * 3)), ((4, 5), (("a",), ("bc",), ("def", "abc"))),
                              ((4, 5), (("a",), ("bcde",), ("f", "a"))), ((4, 5), (("ab",), ("cde",), ("???",)))]
                             + [(size, pieces) for size in itertools.product(range(1, 5), range(1, 7))
                                for pieces in ((("a",),) * 3, (("a",), ("b",), ("cd",)), (("ab",),) * 3)]):
            many = self.count(size, pieces)
            told_numbers.add(many)
            with self.subTest(size=size, pieces=pieces, many=many):
                if many > 1000:
                    with self.assertRaises(TooMany):
                        all_layings(size, pieces)
                else:
                    self.assertEqual(len(all_layings(size, pieces)), many)
        self.assertEqual(max(many for many in told_numbers if many <= 1000), 988)
        self.assertEqual(min(many for many in told_numbers if many > 1000), 1008)
        self.assertEqual(max(told_numbers), 24 * 23 * 22)

    def count(self, size, pieces):
        """How many layings there are, by the places that two or three pieces take."""
        spots = [(line, column) for line in range(size[0]) for column in range(size[1])]
        taken = [[set(some) for some in [plain_taken(size, piece, spot) for spot in spots] if some] for piece in pieces]
        pairs = [one | two for one in taken[0] for two in taken[1] if not one & two]
        return sum(len([1 for three in taken[2] if not pair & three]) for pair in pairs)

    def test_kinds(self):
        check_kinds(self, all_layings, [(2, 3), (("a",),)], [(BadSize, bad_sizes()), (BadPieces, bad_pieces())])

    def test_what_is_just_a_size_and_just_pieces(self):
        for size in ((1, 1), (4, 6)):
            self.assertEqual(told(all_layings, size, (("abcdef",) * 3,)), [] if size == (1, 1) else [((0, 0),), ((1, 0),)])


class PlainTest(unittest.TestCase):
    def test_as_worked_out_plainly(self):
        for book, wear, size, pieces in CASES:
            with self.subTest(book=book, wear=wear, size=size, pieces=pieces):
                found = plain_texts_laid(book, wear, size, pieces)
                told_layings = [laying for laying, _ in found]
                self.assertEqual(told(layings, book, wear, size, pieces), told_layings)
                counts = [(laying, len(texts)) for laying, texts in found]
                self.assertEqual(told(laying_counts, book, wear, size, pieces), counts)
                spots = [{laying[at] for laying in told_layings} for at in range(len(pieces))]
                sure = tuple(sorted(some)[0] if len(some) == 1 else None for some in spots) if found else None
                self.assertEqual(told(sure_laying, book, wear, size, pieces), sure)
                page = plain_page(size, found)
                self.assertEqual(told(sure_page, book, wear, size, pieces), page)
                telling = plain_telling(book, wear, size, pieces, page)
                self.assertEqual(told(telling_pieces, book, wear, size, pieces), telling)

    def test_the_cases_are_of_many_kinds(self):
        found = [plain_texts_laid(*case) for case in CASES]
        self.assertGreater(len([1 for one in found if not one]), 20)
        self.assertGreater(len([1 for one in found if len(one) == 1]), 5)
        self.assertGreater(len([1 for one in found if len(one) > 1]), 50)
        sure = [sure_laying(*case) for case in CASES]
        self.assertGreater(len([1 for one in sure if one and None in one and one != (None,) * len(one)]), 2)
        telling = [telling_pieces(*case) for case in CASES]
        self.assertGreater(len([1 for one in telling if one]), 20)
        self.assertGreater(len([1 for one, case in zip(telling, CASES) if one and len(one) < len(case[3])]), 5)


class ByHandTest(unittest.TestCase):
    def check(self, book, wear, size, pieces, *expected):
        for function, thing in zip(OF_ALL, expected):
            with self.subTest(function=function.__name__):
                self.assertEqual(told(function, book, wear, size, pieces), thing)

    def test_no_laying_with_a_reading(self):
        for book, size, pieces in ((NOTHING, (1, 1), (("?",),)), (BOOK, (1, 3), (("a",),)), (BOOK, (1, 2), (("d",),)),
                                   (BOOK, (1, 2), (("a",), ("cc",))), (ALL, (1, 2), (("a", "a"),))):
            self.check(book, EXAMPLE, size, pieces, [], [], None, None, [])

    def test_one_laying(self):
        # Without a wear c stands at odd places alone, and b at even ones.
        self.check(BOOK, (), (1, 2), (("c",), ("b",)), [((0, 1), (0, 0))], [(((0, 1), (0, 0)), 1)], ((0, 1), (0, 0)),
                   ("bc",), [0, 1])
        self.check(LINE, (), (1, 3), (("e",),), [((0, 1),)], [(((0, 1),), 1)], ((0, 1),), ("deb",), [0])
        self.check(LINE, (), (1, 3), (("?b",),), [((0, 1),)], [(((0, 1),), 2)], ((0, 1),), ("d?b",), [])
        self.check(LINE, (), (3, 1), (("?", "b"),), [((1, 0),)], [(((1, 0),), 2)], ((1, 0),), ("d", "?", "b"), [])

    def test_several_layings_that_agree_on_some_pieces(self):
        # The d stands first; the piece that is broken off lies anywhere behind it.
        self.check(LINE, (), (1, 3), (("d",), ("?",)), [((0, 0), (0, 1)), ((0, 0), (0, 2))],
                   [(((0, 0), (0, 1)), 2), (((0, 0), (0, 2)), 2)], ((0, 0), None), ("d?b",), [])
        self.check(LINE, (), (1, 3), (("?",), ("e",), ("?",)), [((0, 0), (0, 1), (0, 2)), ((0, 2), (0, 1), (0, 0))],
                   [(((0, 0), (0, 1), (0, 2)), 1), (((0, 2), (0, 1), (0, 0)), 1)], (None, (0, 1), None), ("deb",), [1])

    def test_pieces_of_which_each_is_enough(self):
        # Either of the pieces tells all, so none of them tells anything alone.
        book = (4, ((0, "a", 1), (0, "b", 2), (1, "a", 3), (2, "b", 3)), (3,))
        self.check(book, (), (1, 2), (("b",), ("b",)), [((0, 0), (0, 1)), ((0, 1), (0, 0))],
                   [(((0, 0), (0, 1)), 1), (((0, 1), (0, 0)), 1)], (None, None), ("bb",), [])
        self.check(book, (), (1, 2), (("b",),), [((0, 0),), ((0, 1),)], [(((0, 0),), 1), (((0, 1),), 1)], (None,),
                   ("bb",), [0])

    def test_the_whole_page(self):
        pieces = (("abcdef", "fedcba", "......"),)
        self.check(ALL, CHAIN, (3, 6), pieces, [((0, 0),)], [(((0, 0),), 1 * 720 * 720 * 6 ** 6)], ((0, 0),),
                   ("a?????", "?????a", "??????"), [0])
        self.check(ALL, (), (4, 6), (("abcdef",) * 3,), [((0, 0),), ((1, 0),)], [(((0, 0),), 6 ** 6), (((1, 0),), 6 ** 6)],
                   (None,), ("??????", "abcdef", "abcdef", "??????"), [0])

    def test_more_than_one_thousand_without_a_piece(self):
        # Too many are told by the layings of all pieces that are handed in.
        pieces = (("a",), ("b",), ("abcdef",) * 3)
        self.assertEqual(len(all_layings((4, 6), pieces)), 60)
        self.check(ALL, (), (4, 6), pieces, *[told(function, ALL, (), (4, 6), pieces) for function in OF_ALL])
        self.assertEqual(telling_pieces(ALL, (), (4, 6), pieces), [2])


class ErrorsTest(unittest.TestCase):
    def test_kinds(self):
        bad = [(BadBook, bad_books()), (BadWear, bad_wears()), (BadSize, bad_sizes()), (BadPieces, bad_pieces())]
        for function in OF_ALL:
            check_kinds(self, function, [BOOK, EXAMPLE, (1, 2), (("a",),)], bad)

    def test_too_many(self):
        for book in (NOTHING, ALL, BOOK):
            for function in OF_ALL:
                with self.subTest(function=function.__name__, book=book):
                    with self.assertRaises(TooMany):
                        function(book, EXAMPLE, (4, 6), (("a",), ("b",), ("c",)))
                    with self.assertRaises(TooMany):
                        function(book, (), (2, 6), (("d",), ("?",), ("d",)))
                    function(book, EXAMPLE, (2, 5), (("a",), ("b",), ("c",)))
        self.assertEqual(len(all_layings((2, 5), (("a",), ("b",), ("c",)))), 720)

    def test_too_many_come_last(self):
        many = ((4, 6), (("a",), ("b",), ("c",)))
        for function in OF_ALL:
            with self.assertRaises(BadBook):
                function(Odd(), Odd(), *many)
            with self.assertRaises(BadWear):
                function(NOTHING, Odd(), *many)
            with self.assertRaises(BadPieces):
                function(NOTHING, (), many[0], many[1] + (("g",),))


if __name__ == "__main__":
    unittest.main()
