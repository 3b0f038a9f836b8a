"""Point 35: wears, books, rows and texts as they are written."""

import random
import unittest

from tests.plain import ALL, ASTRAY, BOOK, LINE, NOTHING, ONLY_EMPTY, TWELVE, some_books, told
from tests.things import CHAIN, EXAMPLE, LETTERS, Odd, PAIRS, SEEN, TWENTY, WORN, nested, other_kinds, some_wears
from wornstones.books import is_book
from wornstones.errors import BadWords
from wornstones.kinds import is_row, is_text
from wornstones.texts import read_book, read_row, read_text, read_wear, show_book, show_row, show_wear
from wornstones.wears import is_wear

FULL = (12, tuple((room, sign, (room + at) % 12) for room in range(12) for at, sign in enumerate(LETTERS)), tuple(range(12)))
WRITTEN = "2 doors 0 a 1 ; 0 b 1 ; 1 a 0 ; 1 c 0 ends 0"


class PlacesTest(unittest.TestCase):
    """What the other classes use."""

    def check(self, function, text, place):
        """Check that a text is wrong by the word of this index."""
        with self.subTest(function=function.__name__, text=text):
            with self.assertRaises(BadWords) as held:
                function(text)
            self.assertIs(type(held.exception), BadWords)
            self.assertEqual(held.exception.place, place)
            self.assertIs(type(held.exception.place), int)

    def check_any_object(self, function):
        things = other_kinds() + [(), [], ("a",), ["a"], ("a>b",), EXAMPLE, BOOK, nested(90), list("ab")]
        for thing in things:
            with self.assertRaises(BadWords) as held:
                function(thing)
            self.assertEqual(held.exception.place, 0)

    def check_words_changed(self, function, text, is_kind):
        """Change words in all ways: what is read writes itself so, and an error stands at or ahead of the change."""
        chance = random.Random(35)
        words = text.split(" ")
        others = ["", "-", "a", "b", "f", "g", ".", "?", "0", "1", "2", "11", "12", "13", "00", "01", "a>b", "a>.", "f>e",
                  "doors", "ends", ";", "\n", "a\n", "A", "-1", "+1"] + words
        for _ in range(400):
            at = chance.randrange(len(words) + 1)
            way = chance.randrange(3)
            changed = words[:at] + ([] if way == 0 else [chance.choice(others)]) + words[at + (way != 1):]
            written = " ".join(changed)
            try:
                thing = function(written)
            except BadWords as error:
                # The words ahead of the change are as they have to be.
                self.assertGreaterEqual(error.place, at)
                self.assertLessEqual(error.place, len(written.split(" ")))
            else:
                self.assertTrue(is_kind(thing))
                self.assertEqual(self.show(thing), written)

    def show(self, thing):
        if isinstance(thing, str):
            return show_row(thing)
        return show_book(thing) if is_book(thing) else show_wear(thing)


class WearTest(PlacesTest):
    def test_there_and_back(self):
        self.assertEqual(told(show_wear, EXAMPLE), "a>. b>a c>a")
        self.assertEqual(told(read_wear, "a>. b>a c>a"), EXAMPLE)
        self.assertEqual(told(show_wear, ()), "-")
        self.assertEqual(told(read_wear, "-"), ())
        for wear in some_wears(60):
            self.assertEqual(told(read_wear, told(show_wear, wear)), wear)
        for pair in PAIRS:
            self.assertEqual(told(read_wear, f"{pair[0]}>{pair[1]}"), (pair,))

    def test_words_that_are_wrong(self):
        for text, place in (("", 0), (" ", 0), ("-  ", 1), ("- ", 1), (" -", 0), ("--", 0), ("- a>b", 1), ("- -", 1),
                            ("a>b -", 1), ("a>b - b>c", 1), ("a>b  b>c", 1), ("a>b ", 1), (" a>b", 0), ("a>b b>c ", 2),
                            ("a>a", 0), ("a>?", 0), (".>a", 0), ("?>a", 0), ("a>g", 0), ("g>a", 0), ("a>", 0), (">a", 0),
                            ("a", 0), ("a>bc", 0), ("ab>c", 0), ("a>>b", 0), ("a>b>c", 0), ("a<b", 0), ("ab", 0), ("a-b", 0),
                            ("A>b", 0), ("a>B", 0), ("a>b\n", 0), ("\na>b", 0), ("a>b\nb>c", 0), ("a>b,b>c", 0),
                            ("a>b a>b", 1), ("a>b a>.", 1), ("b>a a>b", 1), ("a>b b>c a>c", 2), ("a>b b>c b>c", 2),
                            ("a>b c>d b>c g", 2), ("a>b b>b a>c", 1), ("a>b b>c x", 2), ("a>b b>c d>", 2), (">", 0)):
            self.check(read_wear, text, place)

    def test_twenty_tuples_and_one_more(self):
        written = show_wear(TWENTY)
        self.assertEqual(read_wear(written), TWENTY)
        self.check(read_wear, written + " f>e", 20)
        self.check(read_wear, written + " -", 20)
        self.check(read_wear, written + " f>e f>e", 20)
        self.check(read_wear, " ".join(f"{one}>{other}" for one, other in PAIRS), 20)
        # A word ahead that is wrong comes first.
        self.check(read_wear, "a>a " + written, 0)

    def test_any_object(self):
        self.check_any_object(read_wear)

    def test_words_changed(self):
        for wear in ((), EXAMPLE, CHAIN, TWENTY):
            self.check_words_changed(read_wear, show_wear(wear), is_wear)


class BookTest(PlacesTest):
    def test_there_and_back(self):
        self.assertEqual(told(show_book, BOOK), WRITTEN)
        self.assertEqual(told(read_book, WRITTEN), BOOK)
        self.assertEqual(told(show_book, NOTHING), "1 doors - ends -")
        self.assertEqual(told(read_book, "1 doors - ends -"), NOTHING)
        self.assertEqual(told(show_book, ONLY_EMPTY), "1 doors - ends 0")
        self.assertEqual(told(show_book, (12, ((11, "f", 11),), (0, 10, 11))), "12 doors 11 f 11 ends 0 10 11")
        self.assertEqual(told(read_book, "12 doors 11 f 11 ends -"), (12, ((11, "f", 11),), ()))
        for book in some_books(60, 12) + [ALL, ASTRAY, LINE, NOTHING, ONLY_EMPTY, TWELVE, FULL]:
            self.assertEqual(told(read_book, told(show_book, book)), book)
        for rooms in range(1, 13):
            self.assertEqual(told(read_book, f"{rooms} doors - ends -"), (rooms, (), ()))

    def test_words_that_are_wrong(self):
        for text, place in (("", 0), (" ", 0), ("2", 1), ("2 ", 1), ("2 doors", 2), ("2 doors ", 2), ("2 doors -", 3),
                            ("2 doors - ", 3), ("2 doors - ends", 4), ("2 doors - ends ", 4), ("2 doors - ends - ", 5),
                            ("2 doors - ends - -", 5), ("2 doors - ends - 0", 5), ("2 doors - ends 0 -", 5),
                            ("2 doors - - ends -", 3), ("2 doors - 0 a 1 ends -", 3), ("2 doors - ; ends -", 3),
                            ("2  doors - ends -", 1), (" 2 doors - ends -", 0), ("2 door - ends -", 1), ("2 doors - end -", 3),
                            ("0 doors - ends -", 0), ("13 doors - ends -", 0), ("02 doors - ends -", 0), ("-1 doors - ends -", 0),
                            ("+2 doors - ends -", 0), ("2. doors - ends -", 0), ("100 doors - ends -", 0), ("a doors - ends -", 0),
                            ("two doors - ends -", 0), ("- doors - ends -", 0), ("2_ doors - ends -", 0), ("2\n doors - ends -", 0),
                            ("doors - ends -", 0), ("2 - ends -", 1), ("2 ends -", 1), ("2 doors ends -", 2)):
            self.check(read_book, text, place)

    def test_doors_that_are_wrong(self):
        for doors, place in (("0", 3), ("0 a", 4), ("0 a 1", 5), ("0 a 1 ;", 6), ("0 a 1 ; 1", 7), ("0 a 1 ; 1 a", 8),
                             ("0 a 1 ; 1 a 0", 9), ("2 a 1", 2), ("-1 a 1", 2), ("0 a -1", 4), ("00 a 1", 2), ("a a 1", 2), ("0 . 1", 3), ("0 ? 1", 3),
                             ("0 g 1", 3), ("0 ab 1", 3), ("0  1", 3), ("0 a 2", 4), ("0 a 01", 4), ("0 a -", 4), ("- a 1", 3),
                             ("0 a 1 ; 0 a 0", 7), ("0 b 1 ; 0 a 0", 7), ("1 a 1 ; 0 b 0", 6), ("0 a 1 ; 2 b 0", 6),
                             ("0 a 1 ; 0 b 0 ; 0 b 1", 11), ("0 a 1 ; 1 b 0 ; 0 c 1", 10), ("0 a 1 0 b 1", 5),
                             ("0 a 1 , 0 b 1", 5), ("0 a 1;", 4), ("0 a 1 ; ; 1 a 0", 6), ("; 0 a 1", 2), ("0 a 1 -", 5),
                             ("0 a 1 ; -", 6), ("0 f 1 ; 0 f 1", 7), ("0 f 1 ; 0 x 1", 7), ("0 b 1 ; 0 a 9", 7)):
            self.check(read_book, f"2 doors {doors}", place)
            # What stands behind a word that is wrong is not looked at.
            if place < len(doors.split(" ")) + 2:
                self.check(read_book, f"2 doors {doors} ends 0", place)
        self.check(read_book, "2 doors 0 a 1 ; ends 0", 6)
        self.check(read_book, "2 doors 0 a ends 0", 4)
        self.check(read_book, "2 doors 0 a 1 ; 1 ends 0", 7)
        self.check(read_book, "1 doors 0 a 1 ends 0", 4)
        self.check(read_book, "1 doors 1 a 0 ends 0", 2)
        self.check(read_book, "12 doors 11 f 12 ends 0", 4)
        self.check(read_book, "11 doors 11 f 10 ends 0", 2)

    def test_ends_that_are_wrong(self):
        for ends, place in (("2", 6), ("0 2", 7), ("0 0", 7), ("1 0", 7), ("1 1", 7), ("0 1 1", 8), ("0 1 2", 8), ("0 1 -", 8),
                            ("0 -", 7), ("- 0", 7), ("00", 6), ("01", 6), ("a", 6), ("", 6), ("0 ", 7), (" 0", 6), ("0  1", 7),
                            ("0 1 ", 8), ("-1", 6), ("0 ; 1", 7), ("0\n", 6), ("0 ends", 7)):
            self.check(read_book, f"2 doors 0 a 1 ends {ends}", place)

    def test_seventy_two_doors_and_one_more(self):
        written = show_book(FULL)
        self.assertEqual(len(FULL[1]), 72)
        self.assertEqual(read_book(written), FULL)
        doors = written.split(" ends ")[0]
        # Behind 72 doors of four words each the next word stands at 2 + 288.
        self.assertEqual(len(doors.split(" ")), 2 + 287)
        self.check(read_book, doors + " ; 11 f 0 ends 0", 290)
        self.check(read_book, doors + " ; 11", 290)
        self.check(read_book, doors + " ; ends 0", 290)
        self.check(read_book, doors + " ;", 290)
        self.check(read_book, doors + " 11 f 0 ends 0", 289)
        self.check(read_book, doors, 289)
        self.check(read_book, doors + " ends", 290)

    def test_any_object(self):
        self.check_any_object(read_book)

    def test_words_changed(self):
        for book in (BOOK, NOTHING, ONLY_EMPTY, LINE, ASTRAY, (12, ((10, "a", 11), (11, "b", 10)), (10, 11))):
            self.check_words_changed(read_book, show_book(book), is_book)


class RowTest(PlacesTest):
    def test_there_and_back(self):
        for row in ("", "a", ".", "?", "abcdef", "a.?b", "." * 24, "?" * 24, "a" * 24):
            self.assertEqual(told(show_row, row), row or "-")
            self.assertEqual(told(read_row, told(show_row, row)), row)
        for text in ("", "a", "abcdef", "f" * 24):
            self.assertEqual(told(show_row, text), text or "-")
            self.assertEqual(told(read_text, told(show_row, text)), text)

    def test_words_that_are_wrong(self):
        for function in (read_row, read_text):
            for text, place in (("", 0), (" ", 0), ("g", 0), ("A", 0), ("ab-", 0), ("--", 0), ("-a", 0), ("a\n", 0),
                                ("\n", 0), ("a" * 25, 0), ("abc1", 0), ('a"', 0), (" a", 0), ("a ", 1), ("a b", 1), ("a  b", 1),
                                ("- ", 1), ("- a", 1), ("a -", 1), ("- -", 1), ("a b c", 1), ("g b", 0), ("a g", 1),
                                ("a" * 24 + " ", 1), ("a" * 10000, 0)):
                self.check(function, text, place)
        for text in (".", "?", "a.", "?a", "a?b", "." * 24):
            self.assertEqual(read_row(text), text)
            self.check(read_text, text, 0)

    def test_any_object(self):
        self.check_any_object(read_row)
        self.check_any_object(read_text)

    def test_each_string_of_two_characters(self):
        characters = [chr(number) for number in range(32, 127)] + ["\n"]
        for text in [one + other for one in characters for other in characters]:
            if all(sign in SEEN for sign in text):
                self.assertEqual(read_row(text), text)
            else:
                with self.assertRaises(BadWords):
                    read_row(text)
            if all(sign in LETTERS for sign in text):
                self.assertEqual(read_text(text), text)
            else:
                with self.assertRaises(BadWords):
                    read_text(text)

    def test_words_changed(self):
        for row in ("", "a", "abc"):
            self.check_words_changed(read_row, show_row(row), is_row)
            self.check_words_changed(read_text, show_row(row), is_text)

    def test_odd_objects(self):
        for function in (read_wear, read_book, read_row, read_text):
            with self.assertRaises(BadWords):
                function(text=Odd())
        self.assertEqual(sorted(WORN), sorted("." + LETTERS))


if __name__ == "__main__":
    unittest.main()
