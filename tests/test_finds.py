"""Points 32 to 34: the book of finds."""

import copy
import random
import unittest

from tests.plain import ALL, ASTRAY, BOOK, LINE, NOTHING, ONLY_EMPTY
from tests.plain import bad_books, check_kinds, plain_texts, some_books
from tests.test_copies import FORK, JUST, MORE, PARENTS, plain_ends, plain_texts_cut
from tests.things import CHAIN, EXAMPLE, LETTERS, Odd, RING, SEEN, TWO_PARTS, bad_signs, bad_strs, bad_wears, nested
from tests.things import other_kinds
from tests.wrong import NO_INTEGERS
from wornstones.copies import copies_count, copies_least, copies_readings, copies_sure
from wornstones.errors import BadBook, BadLength, BadParent, BadPlace, BadRow, BadSign, BadWear, Full
from wornstones.errors import NothingToUndo, TooMany
from wornstones.finds import Finds
from wornstones.looks import looks_needed

# Texts of eight signs, as many as can be: the fourth and later ones a, forty of them, or one more.
FORTY = (9, tuple((at, sign, at + 1) for at, many in enumerate((5, 4, 2, 1, 1, 1, 1, 1)) for sign in LETTERS[:many]), (8,))
ONE_MORE = (9, tuple((at, sign, at + 1) for at, many in enumerate((6, 4, 2, 1, 1, 1, 1, 1)) for sign in LETTERS[:many]), (8,))


def shown(finds):
    """All that a Finds tells, but that which can be too much."""
    return (finds.rows(), finds.parents(), finds.looks(), finds.count(), finds.sure(), finds.least(), finds.length,
            len(finds), list(finds))


def made(book, wear, deeds):
    """A Finds with some deeds, each a tuple for find or for look."""
    finds = Finds(book, wear)
    for deed in deeds:
        do(finds, deed)
    return finds


def do(finds, deed):
    """Do a deed: (row,), (row, parent) or (place, sign)."""
    return finds.find(*deed) if isinstance(deed[0], str) else finds.look(*deed)


def plain_left(book, wear, deeds):
    """A list of (text, steps) for the texts that are left behind some deeds, None ahead of any find."""
    rows = tuple(deed[0] for deed in deeds if isinstance(deed[0], str))
    parents = tuple(deed[1] for deed in deeds if isinstance(deed[0], str))[1:]
    looks = [deed for deed in deeds if not isinstance(deed[0], str)]
    found = plain_texts_cut(book, wear, parents, rows) if rows else None
    return found and [(text, steps) for text, steps in found if all(text[place] == sign for place, sign in looks)]


def some_deeds(chance, book, wear):
    """Some deeds, one after the other, most of them of one text."""
    length = chance.randint(0, 3)
    text = chance.choice(plain_texts(book, length) or ["a" * length])
    deeds = []
    for stone in range(chance.randint(0, 4)):
        row = "".join(chance.choice(plain_ends(wear, sign) + "????") for sign in text)
        deeds.append((row, chance.randrange(stone) if stone else None))
        for _ in range(chance.choice([0, 0, 1, 2]) if length else 0):
            place = chance.randrange(length)
            deeds.append((place, text[place] if chance.random() < 0.8 else chance.choice("abc")))
    return deeds


def some_cases(many):
    """As many books, wears and lists of deeds, the same ones in each run."""
    chance = random.Random(33)
    books = [BOOK, BOOK, LINE, ASTRAY, ALL, NOTHING, ONLY_EMPTY] + some_books(10, letters="abce")
    wears = [(), EXAMPLE, EXAMPLE, FORK, RING, CHAIN[:3], TWO_PARTS]
    cases = []
    for _ in range(many):
        book, wear = chance.choice(books), chance.choice(wears)
        cases.append((book, wear, some_deeds(chance, book, wear)))
    return cases


CASES = some_cases(300)


class ToldTest(unittest.TestCase):
    def test_ahead_of_any_find(self):
        for book in (BOOK, NOTHING, MORE):
            finds = Finds(book, EXAMPLE)
            self.assertEqual((finds.rows(), finds.parents(), finds.looks()), ((), (), []))
            self.assertEqual((finds.count(), finds.readings(), finds.sure(), finds.least()), (None,) * 4)
            self.assertEqual(finds.needed(), 0)
            self.assertIs(type(finds.needed()), int)
            self.assertEqual(finds.try_places(), [])
            self.assertEqual((len(finds), list(finds), finds.length), (0, [], None))

    def test_by_hand(self):
        finds = Finds(BOOK, EXAMPLE)
        self.assertIsNone(finds.find("a."))
        self.assertEqual(finds.rows(), ("a.",))
        self.assertEqual(finds.parents(), ())
        self.assertEqual((finds.count(), finds.readings()), (4, ["aa", "ac", "ba", "bc"]))
        self.assertEqual((finds.sure(), finds.least(), finds.needed()), ("??", (1, "aa"), 2))
        self.assertEqual(finds.try_places(), [0, 1])
        self.assertIsNone(finds.look(1, "c"))
        self.assertEqual((finds.count(), finds.readings(), finds.sure()), (2, ["ac", "bc"], "?c"))
        # Looks change no row and no steps: the c that was cut has come to ".".
        self.assertEqual((finds.least(), finds.needed(), finds.try_places()), ((2, "ac"), 1, [0]))
        self.assertIsNone(finds.find("b?", parent=0))
        self.assertEqual((finds.rows(), finds.parents(), finds.looks()), (("a.", "b?"), (0,), [(1, "c")]))
        self.assertEqual((finds.count(), finds.least(), finds.needed(), finds.try_places()), (1, (3, "bc"), 0, []))
        finds.look(0, "a")
        self.assertEqual((finds.count(), finds.readings(), finds.sure(), finds.least()), (0, [], None, None))
        self.assertEqual((finds.needed(), finds.try_places(), finds.length), (0, [], 2))
        self.assertIsNone(finds.undo())
        self.assertIsNone(finds.undo())
        self.assertEqual((finds.rows(), finds.parents(), finds.looks()), (("a.",), (), [(1, "c")]))
        self.assertEqual(finds.least(), (2, "ac"))

    def test_as_worked_out_plainly(self):
        for book, wear, deeds in CASES:
            finds = Finds(book, wear)
            with self.subTest(book=book, wear=wear, deeds=deeds):
                for at, deed in enumerate(deeds):
                    self.assertIsNone(do(finds, deed))
                    self.check(finds, book, wear, deeds[:at + 1])
                for at in range(len(deeds) - 1, -1, -1):
                    self.assertIsNone(finds.undo())
                    self.check(finds, book, wear, deeds[:at])
                with self.assertRaises(NothingToUndo):
                    finds.undo()

    def check(self, finds, book, wear, deeds):
        """Check all that is told behind some deeds."""
        rows = [deed for deed in deeds if isinstance(deed[0], str)]
        self.assertEqual(finds.rows(), tuple(row for row, _ in rows))
        self.assertEqual(finds.parents(), tuple(parent for _, parent in rows[1:]))
        self.assertEqual(finds.looks(), [deed for deed in deeds if not isinstance(deed[0], str)])
        self.assertEqual((len(finds), list(finds)), (len(rows), [row for row, _ in rows]))
        self.assertEqual(finds.length, len(rows[0][0]) if rows else None)
        left = plain_left(book, wear, deeds)
        if left is None:
            self.assertEqual((finds.count(), finds.readings(), finds.sure(), finds.least()), (None,) * 4)
            self.assertEqual((finds.needed(), finds.try_places()), (0, []))
            return
        texts = [text for text, _ in left]
        self.assertEqual((finds.count(), finds.readings()), (len(texts), texts))
        signs = [sorted({text[place] for text in texts}) for place in range(finds.length)]
        self.assertEqual(finds.sure(), "".join(some[0] if len(some) == 1 else "?" for some in signs) if left else None)
        self.assertEqual(finds.least(), min([(steps, text) for text, steps in left], default=None))
        worst = [max(len([text for text in texts if text[place] == sign]) for sign in some)
                 for place, some in enumerate(signs if left else [])]
        best = [place for place, many in enumerate(worst) if many == min(worst)] if len(left) > 1 else []
        self.assertEqual(finds.try_places(), best)
        if len(texts) > 40:
            with self.assertRaises(TooMany):
                finds.needed()
        else:
            self.assertEqual(finds.needed(), looks_needed(texts) if len(texts) > 1 else 0)

    def test_the_cases_are_of_many_kinds(self):
        counts = [made(*case).count() for case in CASES]
        self.assertGreater(counts.count(None), 20)
        self.assertGreater(counts.count(0), 20)
        self.assertGreater(counts.count(1), 20)
        self.assertGreater(len([count for count in counts if count and count > 1]), 20)
        self.assertGreater(len([1 for case in CASES if len(made(*case)) == 4]), 20)

    def test_without_looks_as_copies_tell(self):
        for book, wear, deeds in CASES:
            rows = [deed for deed in deeds if isinstance(deed[0], str)]
            if rows:
                finds = made(book, wear, rows)
                self.assertEqual(finds.count(), copies_count(book, wear, finds.rows()))
                self.assertEqual(finds.readings(), copies_readings(book, wear, finds.rows()))
                self.assertEqual(finds.sure(), copies_sure(book, wear, finds.rows()))
                self.assertEqual(finds.least(), copies_least(book, wear, finds.parents(), finds.rows()))

    def test_rows_without_signs(self):
        finds = made(BOOK, EXAMPLE, [("",), ("", 0)])
        self.assertEqual(shown(finds), (("", ""), (0,), [], 1, "", (0, ""), 0, 2, ["", ""]))
        self.assertEqual((finds.readings(), finds.needed(), finds.try_places()), ([""], 0, []))
        for place in (0, 1, -1):
            with self.assertRaises(BadPlace):
                finds.look(place, "a")
        with self.assertRaises(BadLength):
            finds.find("a", 0)
        self.assertEqual(made(LINE, EXAMPLE, [("",)]).sure(), None)

    def test_four_hundred_texts_and_one_more(self):
        just, more = made(JUST, (), [("????",)]), made(MORE, (), [("????",)])
        self.assertEqual((just.count(), more.count()), (400, 401))
        self.assertEqual(just.readings(), plain_texts(JUST, 4))
        self.assertEqual(just.try_places(), [0, 2])
        for call in (more.readings, more.try_places, more.needed, just.needed):
            with self.assertRaises(TooMany):
                call()
        self.assertEqual((more.sure(), more.least()), ("????", (0, "aaaa")))
        more.look(0, "f")
        self.assertEqual((more.readings(), more.needed(), more.try_places()), (["faaa"], 0, []))

    def test_forty_texts_and_more(self):
        forty = made(FORTY, (), [("?" * 8,)])
        self.assertEqual((forty.count(), forty.needed()), (40, 3))
        more = made(ONE_MORE, (), [("?" * 8,)])
        self.assertEqual(more.count(), 48)
        with self.assertRaises(TooMany):
            more.needed()
        self.assertEqual(len(more.readings()), 48)
        self.assertEqual(more.try_places(), [0])
        more.look(0, "f")
        self.assertEqual((more.count(), more.needed()), (8, 2))
        # 41 texts: the forty, and one behind a sign of its own.
        doors = FORTY[1] + ((0, "f", 9), (9, "a", 10), (10, "a", 3))
        one_more = made((11, tuple(sorted(doors)), (8,)), (), [("?" * 8,)])
        self.assertEqual(one_more.count(), 41)
        with self.assertRaises(TooMany):
            one_more.needed()
        one_more.look(2, "a")
        self.assertEqual((one_more.count(), one_more.needed()), (21, 2))

    def test_needed_with_too_many_sets(self):
        # The texts have one b at most: any of these texts can be left out by looks, if one of them is left.
        book = (2, ((0, "a", 0), (0, "b", 1), (1, "a", 1)), (0, 1))
        for length, many in ((9, 2 ** 9 - 1), (10, 2 ** 10 - 1)):
            finds = made(book, (), [("?" * length,)])
            self.assertEqual(finds.count(), length + 1)
            if many > 600:
                with self.assertRaises(TooMany):
                    finds.needed()
            else:
                self.assertEqual(finds.needed(), length)
            self.assertEqual(len(finds.readings()), length + 1)
            self.assertEqual(finds.try_places(), list(range(length)))

    def test_what_is_returned_may_be_changed(self):
        finds = made(BOOK, EXAMPLE, [("a.",), (1, "c")])
        for call in (finds.looks, finds.readings, finds.try_places):
            told = call()
            self.assertIsNot(told, call())
            told.clear()
            self.assertNotEqual(call(), [])
        before = shown(finds)
        finds.looks().append((0, "a"))
        list(finds).clear()
        self.assertEqual(shown(finds), before)


class ErrorsTest(unittest.TestCase):
    def test_kinds_of_a_new_one(self):
        check_kinds(self, Finds, [BOOK, EXAMPLE], [(BadBook, bad_books()), (BadWear, bad_wears())])
        self.assertEqual(Finds(book=BOOK, wear=EXAMPLE), Finds(BOOK, EXAMPLE))

    def check(self, finds, error, function, *given):
        """An error of just this kind, behind which nothing has changed."""
        before = shown(finds)
        with self.assertRaises(error) as held:
            function(*given)
        self.assertIs(type(held.exception), error)
        self.assertEqual(shown(finds), before)

    def test_rows(self):
        for finds, parent in ((Finds(BOOK, EXAMPLE), None), (made(BOOK, EXAMPLE, [("ab",)]), 0),
                              (made(BOOK, EXAMPLE, [("ab",), ("ab", 0), ("ab", 0), ("ab", 0)]), 0)):
            for row in bad_strs(SEEN):
                for other in (parent, 9, Odd(), None):
                    self.check(finds, BadRow, finds.find, row, other)

    def test_parents(self):
        first = Finds(BOOK, EXAMPLE)
        for parent in [0, 1, -1, 10 ** 59] + [thing for thing in NO_INTEGERS if thing is not None]:
            self.check(first, BadParent, first.find, "ab", parent)
        for many in (1, 2, 3, 4):
            finds = made(BOOK, EXAMPLE, [("ab", None if stone == 0 else 0) for stone in range(many)])
            for parent in NO_INTEGERS + [-1, many, many + 1, 10 ** 59]:
                # A row of another length, or a fifth stone, is an error that comes later.
                self.check(finds, BadParent, finds.find, "ab", parent)
                self.check(finds, BadParent, finds.find, "abc", parent)
            self.check(finds, BadParent, finds.find, "ab")

    def test_lengths(self):
        finds = made(BOOK, EXAMPLE, [("ab",)])
        for row in ("", "a", "abc", "?" * 24):
            self.check(finds, BadLength, finds.find, row, 0)
        finds = made(BOOK, EXAMPLE, [("ab",)] + [("ab", 0)] * 3)
        self.check(finds, BadLength, finds.find, "abc", 3)

    def test_four_stones_and_a_fifth_one(self):
        finds = made(BOOK, EXAMPLE, [("ab",), ("ab", 0), ("ab", 1), ("ab", 2)])
        self.assertEqual(len(finds), 4)
        for parent in range(4):
            self.check(finds, TooMany, finds.find, "ab", parent)
        for _ in range(36):
            finds.look(0, "a")
        self.check(finds, TooMany, finds.find, "ab", 0)
        finds.undo()
        self.check(finds, TooMany, finds.find, "ab", 0)

    def test_signs_and_places(self):
        finds = made(BOOK, EXAMPLE, [("ab",)])
        for sign in bad_signs(LETTERS):
            for place in (0, 9, Odd()):
                self.check(finds, BadSign, finds.look, place, sign)
        for place in NO_INTEGERS + [-1, 2, 24, 10 ** 59, (0,), "0"]:
            self.check(finds, BadPlace, finds.look, place, "a")
        first = Finds(BOOK, EXAMPLE)
        for place in (0, 1, -1, None, Odd()):
            self.check(first, BadPlace, first.look, place, "a")
            self.check(first, BadSign, first.look, place, ".")

    def test_forty_deeds_and_one_more(self):
        finds = made(BOOK, EXAMPLE, [("a.",)] + [(1, "c")] * 38)
        finds.find("a.", 0)
        self.assertEqual((len(finds.rows()), len(finds.looks())), (2, 38))
        self.check(finds, Full, finds.look, 0, "a")
        self.check(finds, Full, finds.find, "a.", 1)
        # All other errors come ahead of it.
        self.check(finds, BadSign, finds.look, 0, "?")
        self.check(finds, BadPlace, finds.look, 2, "a")
        self.check(finds, BadRow, finds.find, "g", 0)
        self.check(finds, BadParent, finds.find, "a.", 2)
        self.check(finds, BadLength, finds.find, "a", 0)
        finds.undo()
        finds.look(0, "b")
        self.assertEqual(finds.readings(), ["bc"])
        self.check(finds, Full, finds.look, 0, "b")
        for _ in range(40):
            finds.undo()
        self.check(finds, NothingToUndo, finds.undo)

    def test_a_deed_that_changes_nothing_is_one(self):
        finds = made(BOOK, EXAMPLE, [("a.",), (0, "a"), (0, "a")])
        finds.undo()
        self.assertEqual(finds.looks(), [(0, "a")])
        finds.undo()
        self.assertEqual(finds.looks(), [])
        finds.undo()
        self.assertEqual(finds.rows(), ())
        with self.assertRaises(NothingToUndo):
            finds.undo()

    def test_errors_are_no_deeds(self):
        finds = made(BOOK, EXAMPLE, [("a.",), (0, "a")])
        for given in (("g", 0), ("a.", 5), ("a", 0)):
            with self.assertRaises(ValueError):
                finds.find(*given)
        with self.assertRaises(BadPlace):
            finds.look(5, "a")
        finds.undo()
        self.assertEqual((finds.rows(), finds.looks()), (("a.",), []))

    def test_a_new_first_stone(self):
        finds = made(BOOK, EXAMPLE, [("a.",)])
        finds.undo()
        with self.assertRaises(BadParent):
            finds.find("abc", 0)
        finds.find("abc", None)
        self.assertEqual((finds.rows(), finds.length), (("abc",), 3))


class OperatorsTest(unittest.TestCase):
    def test_rows_by_number(self):
        finds = made(BOOK, EXAMPLE, [("ab",), ("b.", 0), ("??", 1)])
        self.assertEqual([finds[number] for number in range(3)], ["ab", "b.", "??"])
        for number in NO_INTEGERS + [3, -1, -3, 10 ** 59, slice(0, 1), slice(None)]:
            with self.assertRaises(BadPlace):
                finds[number]
        for number in (0, -1, None, Odd()):
            with self.assertRaises(BadPlace):
                Finds(BOOK, EXAMPLE)[number]

    def test_iterating(self):
        finds = made(BOOK, EXAMPLE, [("ab",), ("b.", 0), (0, "a"), ("??", 1)])
        self.assertEqual([row for row in finds], ["ab", "b.", "??"])
        self.assertEqual(list(finds), list(finds))
        self.assertEqual(len(finds), 3)
        self.assertIn("b.", finds)
        self.assertNotIn("ac", finds)

    def test_equal_ones(self):
        deeds = [("ab",), (0, "a"), ("b.", 0), (1, "b")]
        finds = made(BOOK, EXAMPLE, deeds)
        self.assertEqual(finds, made(BOOK, EXAMPLE, deeds))
        self.assertIs(finds == made(BOOK, EXAMPLE, deeds), True)
        self.assertIs(finds != made(BOOK, EXAMPLE, deeds), False)
        self.assertEqual(Finds(BOOK, EXAMPLE), Finds(BOOK, EXAMPLE))
        for book, wear, other in ((ALL, EXAMPLE, deeds), (BOOK, (), deeds), (BOOK, EXAMPLE, deeds[:3]),
                                  (BOOK, EXAMPLE, [deeds[0], deeds[2], deeds[1], deeds[3]]),
                                  (BOOK, EXAMPLE, [deeds[0], deeds[1], deeds[3], deeds[2]]),
                                  (BOOK, EXAMPLE, deeds + [(1, "b")]), (BOOK, EXAMPLE, []),
                                  (BOOK, EXAMPLE, [("ab",), (0, "b"), ("b.", 0), (1, "b")]),
                                  (BOOK, EXAMPLE, [("ab",), (1, "a"), ("b.", 0), (1, "b")]),
                                  (BOOK, EXAMPLE, [("a?",), (0, "a"), ("b.", 0), (1, "b")])):
            self.assertIs(finds == made(book, wear, other), False)
            self.assertIs(finds != made(book, wear, other), True)
        self.assertIs(made(BOOK, EXAMPLE, [("a",), ("a", 0), ("a", 0)]) == made(BOOK, EXAMPLE, [("a",), ("a", 0), ("a", 1)]),
                      False)

    def test_books_with_the_same_texts_are_unlike(self):
        self.assertIs(Finds(NOTHING, ()) == Finds((2, (), ()), ()), False)
        self.assertIs(Finds(BOOK, EXAMPLE) == Finds(BOOK, EXAMPLE[:2]), False)

    def test_equal_behind_undo(self):
        finds = made(BOOK, EXAMPLE, [("ab",), (0, "a"), (1, "b")])
        finds.undo()
        self.assertEqual(finds, made(BOOK, EXAMPLE, [("ab",), (0, "a")]))
        finds.undo()
        finds.undo()
        self.assertEqual(finds, Finds(BOOK, EXAMPLE))

    def test_equal_to_nothing_else(self):
        class Everything:
            def __eq__(self, other):
                return True

        finds = made(BOOK, EXAMPLE, [("ab",)])
        for thing in other_kinds()[:-2] + ["ab", ["ab"], ("ab",), (BOOK, EXAMPLE), Everything(), Finds]:
            if not isinstance(thing, Odd):
                self.assertIs(finds == thing, False)
                self.assertIs(finds != thing, True)

    def test_copies(self):
        for book, wear, deeds in CASES[:100]:
            finds = made(book, wear, deeds)
            other = finds.copy()
            self.assertEqual(finds, other)
            self.assertIsNot(finds, other)
            self.assertEqual(shown(finds), shown(other))
            for at in range(len(deeds) - 1, -1, -1):
                other.undo()
                self.assertEqual(other, made(book, wear, deeds[:at]))
                self.assertNotEqual(finds, other)
            with self.assertRaises(NothingToUndo):
                other.undo()
            self.assertEqual(finds, made(book, wear, deeds))

    def test_what_is_done_to_one_of_them(self):
        finds = made(BOOK, EXAMPLE, [("ab",), (0, "a")])
        other = finds.copy()
        other.look(1, "c")
        self.assertEqual((finds.looks(), other.looks()), ([(0, "a")], [(0, "a"), (1, "c")]))
        finds.find("a?", 0)
        self.assertEqual((finds.rows(), other.rows()), (("ab", "a?"), ("ab",)))
        third = other.copy()
        finds.undo()
        finds.look(1, "c")
        self.assertEqual(finds, other)
        self.assertEqual(finds, third)
        finds.undo()
        self.assertNotEqual(finds, third)

    def test_each_method_stands_in_the_class(self):
        for name in ("__init__", "find", "look", "undo", "rows", "parents", "looks", "count", "readings", "sure", "least",
                     "needed", "__len__", "__getitem__", "__iter__", "__eq__", "copy", "length", "try_places"):
            self.assertIn(name, vars(Finds))
        self.assertIsInstance(vars(Finds)["length"], property)

    def test_nothing_is_changed_by_asking(self):
        for book, wear, deeds in CASES[:60]:
            given = copy.deepcopy((book, wear))
            finds = made(book, wear, deeds)
            before = finds.copy()
            for _ in range(2):
                shown(finds)
                finds.readings()
                finds.try_places()
                self.assertEqual(finds, before)
                self.assertEqual(shown(finds), shown(before))
            self.assertEqual((book, wear), given)

    def test_all_parents(self):
        for parents in PARENTS:
            finds = made(BOOK, EXAMPLE, [("a.",)] + [("a.", parent) for parent in parents])
            self.assertEqual(finds.parents(), parents)
            self.assertEqual(finds.least(), copies_least(BOOK, EXAMPLE, parents, ("a.",) * (len(parents) + 1)))

    def test_names(self):
        finds = Finds(wear=EXAMPLE, book=BOOK)
        finds.find(row="ab", parent=None)
        finds.find(parent=0, row="a.")
        finds.look(sign="a", place=0)
        self.assertEqual(finds, made(BOOK, EXAMPLE, [("ab",), ("a.", 0), (0, "a")]))
        for thing in (nested(90), Odd()):
            with self.assertRaises(BadRow):
                finds.find(parent=thing, row=thing)
            with self.assertRaises(BadSign):
                finds.look(sign=thing, place=thing)


if __name__ == "__main__":
    unittest.main()
