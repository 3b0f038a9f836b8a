"""Points 36 and 37: the desk."""

import random
import unittest

from tests.plain import ALL, ASTRAY, BOOK, LINE, NOTHING, some_books
from tests.test_finds import FORTY, MORE, ONE_MORE
from tests.things import CHAIN, EXAMPLE, LETTERS, Odd, nested, other_kinds, some_wears
from wornstones.alike import least_alike
from wornstones.copies import best_parents
from wornstones.desk import Desk
from wornstones.doubts import best_cuts
from wornstones.errors import BadCommand, BadCount, BadLength, BadParent, BadPlace, BadSign, BadWords, Full
from wornstones.errors import NotOf, NothingToUndo, StoneError, TooMany
from wornstones.finds import Finds
from wornstones.texts import show_book, show_wear
from wornstones.years import years_sure

FIRST = (1, ((0, "a", 0), (0, "b", 0)), (0,))


def desk_with(book, wear, *rows):
    """A desk with a book and a wear, to which some rows are said."""
    desk = Desk()
    for row in (f"book {show_book(book)}", f"wear {show_wear(wear)}") + rows:
        if desk.say(row) != "ok":
            raise AssertionError(row)
    return desk


class DeskTest(unittest.TestCase):
    def check(self, desk, *rows):
        """Check rows and their answers, one after the other."""
        for row, answer in rows:
            with self.subTest(row=row):
                self.assertEqual(desk.say(row), answer)

    def check_error(self, desk, row, error, place=None):
        """An error of just this kind, behind which nothing has changed."""
        before = (desk.finds(), desk.say("show"))
        with self.subTest(row=row if isinstance(row, str) else None):
            with self.assertRaises(error) as held:
                desk.say(row)
            self.assertIs(type(held.exception), error)
            if place is not None:
                self.assertEqual(held.exception.place, place)
            self.assertEqual((desk.finds(), desk.say("show")), before)

    def test_at_first(self):
        desk = Desk()
        self.assertEqual(desk.finds(), Finds(FIRST, ()))
        self.check(desk, ("show", "1 doors 0 a 0 ; 0 b 0 ends 0 | -"), ("count", "any"), ("sure", "any"), ("least", "any"),
                   ("needed", "0"), ("rows", "none"), ("parents", "none"), ("alike", "never"), ("cuts", "abcdef"),
                   ("years 1 ab", "ever"), ("years 4 -", "ever"))
        self.check_error(desk, "undo", NothingToUndo)

    def test_the_example(self):
        desk = Desk()
        self.check(desk, ("book 2 doors 0 a 1 ; 0 b 1 ; 1 a 0 ; 1 c 0 ends 0", "ok"), ("wear a>. b>a c>a", "ok"),
                   ("show", "2 doors 0 a 1 ; 0 b 1 ; 1 a 0 ; 1 c 0 ends 0 | a>. b>a c>a"),
                   ("alike", "1"), ("cuts", "abcdef"), ("years 1 aa", "0"), ("find a.", "ok"), ("count", "4"),
                   ("sure", "??"), ("least", "1 aa"), ("needed", "2"), ("rows", "a."), ("parents", "none"),
                   ("look 1 c", "ok"), ("count", "2"), ("sure", "?c"), ("least", "2 ac"), ("needed", "1"),
                   ("copy 0 b?", "ok"), ("rows", "a. b?"), ("parents", "0"), ("count", "1"), ("sure", "bc"),
                   ("least", "3 bc"), ("needed", "0"), ("look 0 a", "ok"), ("count", "0"), ("sure", "none"),
                   ("least", "none"), ("needed", "0"), ("undo", "ok"), ("count", "1"), ("undo", "ok"), ("undo", "ok"),
                   ("undo", "ok"), ("count", "any"), ("rows", "none"))
        self.check_error(desk, "undo", NothingToUndo)

    def test_rows_without_signs(self):
        desk = desk_with(BOOK, EXAMPLE)
        self.check(desk, ("find -", "ok"), ("rows", "-"), ("count", "1"), ("sure", "-"), ("least", "0 -"), ("copy 0 -", "ok"),
                   ("rows", "- -"), ("parents", "0"), ("needed", "0"), ("years 1 -", "ever"))
        desk = desk_with(LINE, EXAMPLE, "find -")
        self.check(desk, ("count", "0"), ("sure", "none"), ("least", "none"), ("rows", "-"))

    def test_a_new_book_leaves_the_wear(self):
        desk = desk_with(BOOK, EXAMPLE, "find a.", "look 1 c")
        self.check(desk, ("book 1 doors - ends -", "ok"), ("show", "1 doors - ends - | a>. b>a c>a"), ("count", "any"))
        self.assertEqual(desk.finds(), Finds(NOTHING, EXAMPLE))
        self.check(desk, ("find aa", "ok"), ("count", "0"), ("wear -", "ok"), ("show", "1 doors - ends - | -"))
        self.assertEqual(desk.finds(), Finds(NOTHING, ()))
        self.check(desk, ("wear a>b", "ok"), (f"book {show_book(BOOK)}", "ok"))
        self.assertEqual(desk.finds(), Finds(BOOK, (("a", "b"),)))
        self.check_error(desk, "undo", NothingToUndo)

    def test_finds_is_a_copy(self):
        desk = desk_with(BOOK, EXAMPLE, "find a.")
        finds = desk.finds()
        finds.look(1, "c")
        finds.find("??", 0)
        self.check(desk, ("count", "4"), ("rows", "a."))
        self.assertIsNot(desk.finds(), desk.finds())
        self.assertEqual(desk.finds(), desk.finds())
        other = desk.finds()
        desk.say("undo")
        self.assertEqual(other.rows(), ("a.",))
        self.assertEqual(len(desk.finds()), 0)
        # What is to be taken back is copied, too.
        other.undo()
        self.assertEqual(other, desk.finds())

    def test_the_parents_hang_on_the_rows_alone(self):
        desk = desk_with(ALL, CHAIN, "find aa", "copy 0 bb", "copy 0 bb")
        self.assertEqual(best_parents(ALL, CHAIN, ("aa", "bb", "bb")), (2, [(0, 1)]))
        self.check(desk, ("parents", "0 1"), ("look 0 f", "ok"), ("count", "0"), ("parents", "0 1"), ("copy 2 cc", "ok"),
                   ("parents", "0 1 1"))
        desk = desk_with(BOOK, EXAMPLE, "find dd", "copy 0 aa")
        self.check(desk, ("parents", "none"), ("count", "0"))
        desk = desk_with(BOOK, (), "find bc", "copy 0 bc", "copy 0 bc")
        self.check(desk, ("parents", "0 0"))

    def test_what_other_functions_tell(self):
        chance = random.Random(36)
        wears = some_wears(40)
        for book in some_books(40) + [BOOK, ALL, LINE, ASTRAY, NOTHING]:
            wear = chance.choice(wears)
            desk = desk_with(book, wear)
            least = least_alike(book, wear)
            self.check(desk, ("alike", "never" if least is None else str(least)), ("cuts", "".join(best_cuts(book, wear)[1])),
                       ("show", f"{show_book(book)} | {show_wear(wear)}"))
            for text in ("a", "ab", "dab", "bcaa"):
                for speed in range(1, 5):
                    try:
                        years = years_sure(book, wear, text, speed)
                    except NotOf:
                        self.check_error(desk, f"years {speed} {text}", NotOf)
                    else:
                        self.check(desk, (f"years {speed} {text}", "ever" if years is None else str(years)))

    def test_as_finds_tell(self):
        chance = random.Random(37)
        for number in range(60):
            book = chance.choice([BOOK, ALL, LINE, ASTRAY] + some_books(5, letters="abc"))
            wear = chance.choice([(), EXAMPLE, CHAIN[:3]])
            desk, finds = desk_with(book, wear), Finds(book, wear)
            for _ in range(12):
                row = self.some_row(chance, finds)
                self.say_and_do(desk, finds, row)
                self.assertEqual(desk.finds(), finds)
                if len(finds):
                    least = finds.least()
                    self.check(desk, ("count", str(finds.count())), ("sure", "none" if least is None else finds.sure() or "-"),
                               ("least", "none" if least is None else f"{least[0]} {least[1] or '-'}"),
                               ("rows", " ".join(row or "-" for row in finds)))

    def some_row(self, chance, finds):
        """A row that may be an error."""
        length = chance.choice([finds.length or 0, finds.length or 2, 2, 2])
        row = "".join(chance.choices("??.abc", k=length)) or "-"
        parent = chance.randrange(3)
        return chance.choice([f"find {row}", f"copy {parent} {row}", f"copy {parent} {row}", "undo",
                              f"look {chance.randrange(3)} {chance.choice('aabc.')}"])

    def say_and_do(self, desk, finds, row):
        """Say a row to a desk, and do the same with a Finds: both do it, or both raise the same error."""
        words = ["" if word == "-" else word for word in row.split(" ")]
        calls = {"find": lambda: finds.find(words[1]), "copy": lambda: finds.find(words[2], int(words[1])),
                 "look": lambda: finds.look(int(words[1]), words[2]), "undo": finds.undo}
        try:
            calls[words[0]]()
        except StoneError as error:
            self.check_error(desk, row, type(error))
        else:
            self.check(desk, (row, "ok"))

    def test_any_object(self):
        desk = desk_with(BOOK, EXAMPLE, "find a.")
        for thing in other_kinds() + [(), [], ["count"], ("count",), b"count", nested(90)]:
            self.check_error(desk, thing, BadCommand)

    def test_bad_commands(self):
        desk = desk_with(BOOK, EXAMPLE, "find a.")
        for row in ("", " ", "\n", "x", "Count", "COUNT", "count ", " count", "count count", "count a", "counts", "count\n",
                    "sure ", "sure a", "least ", "needed ", "alike ", "cuts ", "rows ", "show ", "parents ", "parents 0",
                    "undo ", "undo 1", "undo\n", "book", "wear", "Book -", "bookx", "book\n-", "wear\n-", " book -", " wear -",
                    "find", "find ", "find  ", "find  a", "find a ", "find a a", " find a", "find a. b", "find\na", "finda.",
                    "copy", "copy ", "copy 0", "copy 0 ", "copy  a.", "copy a. 0", "copy 00 a.", "copy 10 a.", "copy -1 a.",
                    "copy +0 a.", "copy a a.", "copy 0  a.", "copy 0 a. ", "copy 0 a. a", "copy - a.", "copy \n a.",
                    "look", "look ", "look 0", "look 0 ", "look  a", "look 00 a", "look 01 a", "look 100 a", "look -1 a",
                    "look a 0", "look 0 a ", "look 0 a b", "look 0  a", "look + a", "look 1. a", "look 0\n a", "look a",
                    "years", "years ", "years 1", "years 1 ", "years  aa", "years aa 1", "years 01 aa", "years 10 aa",
                    "years -1 aa", "years 1 aa ", "years 1 aa b", "years 1  aa", "years - aa", "years aa", "year 1 aa",
                    "readings", "length", "finds", "say count", "len", "-"):
            self.check_error(desk, row, BadCommand)

    def test_line_feeds_are_signs_like_others(self):
        desk = desk_with(BOOK, EXAMPLE, "find a.")
        self.check_error(desk, "find a\nb", BadWords, 0)
        self.check_error(desk, "find \n", BadWords, 0)
        self.check_error(desk, "copy 0 a\n", BadWords, 0)
        self.check_error(desk, "look 0 \n", BadSign)
        self.check_error(desk, "look 0 a\n", BadSign)
        self.check_error(desk, "years 1 a\na", BadWords, 0)
        self.check_error(desk, "wear a>b\nb>c", BadWords, 0)
        self.check_error(desk, "wear a>b b>c\n", BadWords, 1)
        self.check_error(desk, "book 1\ndoors - ends -", BadWords, 0)

    def test_bad_words(self):
        desk = desk_with(BOOK, EXAMPLE, "find a.")
        for row, place in (("book ", 0), ("book  ", 0), ("book -", 0), ("book 2", 1), ("book  2 doors - ends -", 0),
                           ("book 2 doors - ends - ", 5), ("book 2 doors 0 a 2 ends -", 4), ("book 13 doors - ends -", 0),
                           ("book 2 doors 0 a 1 ; 0 a 0 ends -", 7), ("book 1 doors - ends 1", 4), ("book book", 0),
                           ("wear ", 0), ("wear  ", 0), ("wear - -", 1), ("wear a>a", 0), ("wear a>b a>b", 1),
                           ("wear a>b b>a x", 2), ("wear wear -", 0), ("wear a>b ", 1),
                           ("find g", 0), ("find " + "a" * 25, 0), ("find -a", 0), ("find 0", 0), ("copy 0 g", 0),
                           ("years 1 g", 0), ("years 1 a.", 0), ("years 1 ?", 0), ("years 1 " + "a" * 25, 0)):
            self.check_error(desk, row, BadWords, place)
        # They come ahead of what hangs on the finds.
        for row in ("find g", "copy 9 g", "copy 0 abc1", "years 9 g", "years 0 a?"):
            self.check_error(desk, row, BadWords, 0)

    def test_errors_in_their_order(self):
        desk = desk_with(BOOK, EXAMPLE)
        self.check_error(desk, "copy 0 a.", BadParent)
        self.check_error(desk, "look 0 a", BadPlace)
        self.check_error(desk, "look 99 .", BadSign)
        desk.say("find a.")
        for sign in ("?", ".", "g", "ab", "-", "0", "A"):
            self.check_error(desk, f"look 0 {sign}", BadSign)
            self.check_error(desk, f"look 99 {sign}", BadSign)
        for speed in (0, 5, 9):
            self.check_error(desk, f"years {speed} aa", BadCount)
            self.check_error(desk, f"years {speed} a", BadCount)
        self.check_error(desk, "years 1 a", NotOf)
        self.check_error(desk, "years 4 cb", NotOf)
        self.check_error(desk, "find a.", BadParent)
        self.check_error(desk, "find a", BadParent)
        for parent in range(1, 10):
            self.check_error(desk, f"copy {parent} a.", BadParent)
            self.check_error(desk, f"copy {parent} a", BadParent)
        self.check_error(desk, "copy 0 a", BadLength)
        self.check_error(desk, "copy 0 -", BadLength)
        for place in (2, 9, 10, 24, 99):
            self.check_error(desk, f"look {place} a", BadPlace)
        for parent in range(3):
            self.check(desk, (f"copy {parent} a.", "ok"))
        self.check_error(desk, "copy 0 a.", TooMany)
        self.check_error(desk, "copy 0 a", BadLength)
        for _ in range(36):
            self.check(desk, ("look 1 c", "ok"))
        self.check_error(desk, "look 1 c", Full)
        self.check_error(desk, "copy 3 a.", TooMany)
        self.check_error(desk, "look 2 c", BadPlace)
        self.check(desk, ("undo", "ok"), ("look 0 a", "ok"), ("count", "1"))

    def test_full_for_a_copy(self):
        desk = desk_with(BOOK, EXAMPLE, "find a.", *["look 1 c"] * 39)
        self.check_error(desk, "copy 0 a.", Full)
        self.check_error(desk, "copy 1 a.", BadParent)
        self.check_error(desk, "look 1 c", Full)

    def test_places_of_two_digits(self):
        desk = desk_with(ALL, (), "find " + "?" * 24)
        self.check(desk, ("look 23 a", "ok"), ("look 10 b", "ok"), ("look 9 c", "ok"),
                   ("sure", "?" * 9 + "cb" + "?" * 12 + "a"))
        self.check_error(desk, "look 24 a", BadPlace)

    def test_too_many_looks(self):
        desk = desk_with(FORTY, (), "find " + "?" * 8)
        self.check(desk, ("needed", "3"), ("count", "40"))
        desk = desk_with(ONE_MORE, (), "find " + "?" * 8)
        self.check_error(desk, "needed", TooMany)
        self.check(desk, ("count", "48"), ("look 0 a", "ok"), ("needed", "2"))
        desk = desk_with(MORE, (), "find ????")
        self.check_error(desk, "needed", TooMany)
        self.check(desk, ("count", "401"), ("sure", "????"), ("least", "0 aaaa"))

    def test_each_method_stands_in_the_class(self):
        for name in ("__init__", "say", "finds"):
            self.assertIn(name, vars(Desk))
        desk = Desk()
        self.assertEqual(desk.say(row="count"), "any")
        with self.assertRaises(BadCommand):
            desk.say(row=Odd())

    def test_desks_are_their_own(self):
        one, other = Desk(), Desk()
        one.say("find ab")
        self.assertEqual((one.say("count"), other.say("count")), ("1", "any"))
        self.assertEqual(sorted(LETTERS), list(one.say("cuts")))


if __name__ == "__main__":
    unittest.main()
