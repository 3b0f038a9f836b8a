"""Points 24 to 26: several stones of one text, copies of copies among them."""

import functools
import itertools
import random
import unittest

from tests.plain import ALL, ASTRAY, BOOK, LINE, NOTHING, ONLY_EMPTY
from tests.plain import bad_books, bad_counts, check_kinds, cycle, plain_texts, some_books, told
from tests.things import CHAIN, EXAMPLE, LETTERS, Odd, RING, SEEN, TWO_PARTS
from tests.things import bad_signs, bad_wears, plain_steps, some_wears
from tests.wrong import NO_INTEGERS, bad_columns, bad_parents, bad_rows
from wornstones.copies import best_parents, copies_count, copies_least, copies_readings, copies_sure, copies_within
from wornstones.copies import needless_copies, parents_apart, place_signs, place_steps, sign_steps
from wornstones.errors import BadBook, BadColumn, BadCount, BadParents, BadPlace, BadRows, BadSign, BadWear, TooMany
from wornstones.readings import count_readings, least_worn, readings, sure_signs

# One step leads from a to b, from there to d or e; c has ways of its own.
FORK = (("a", "b"), ("b", "d"), ("b", "e"), ("c", "b"), ("e", "."))


def plain_parents(stones):
    """All parents of so many stones, ascending."""
    return list(itertools.product(*[range(stone) for stone in range(1, stones)]))


PARENTS = [parents for stones in range(1, 5) for parents in plain_parents(stones)]


@functools.cache
def plain_place_steps(wear, parents, column):
    """A dict of the signs that come to be seen so with the least steps, by going through all orders of wearing and copying.

    A standing is a str of what is on the stones that are there; a step of wear takes one, a copying none.
    """
    found = {}
    for sign in LETTERS:
        wave = {sign}
        done = set()
        total = 0
        while wave and sign not in found:
            # All that copyings alone make of these standings belongs to the same number of steps.
            for standing in list(wave):
                while len(standing) < len(column):
                    standing += standing[parents[len(standing) - 1]]
                    wave.add(standing)
            whole = [standing for standing in wave if len(standing) == len(column)]
            if any(all(seen in ("?", worn) for worn, seen in zip(standing, column)) for standing in whole):
                found[sign] = total
            done |= wave
            wave = {standing[:at] + other + standing[at + 1:] for standing in wave for at in range(len(standing))
                    for one, other in wear if one == standing[at]} - done
            total += 1
    return found


def plain_texts_cut(book, wear, parents, rows):
    """A list of (text, steps) of the texts that can have been cut into stone 0."""
    told_steps = {column: plain_place_steps(wear, parents, column) for column in zip(*rows)}
    found = []
    for text in plain_texts(book, len(rows[0])):
        sums = [told_steps[column].get(sign) for sign, column in zip(text, zip(*rows))]
        if None not in sums:
            found.append((text, sum(sums)))
    return found


def some_cases(many):
    """As many books, wears, parents and rows, the same ones in each run."""
    chance = random.Random(25)
    books = [BOOK, BOOK, LINE, ASTRAY, NOTHING, ONLY_EMPTY, ALL] + some_books(15, letters="abce")
    wears = [(), EXAMPLE, EXAMPLE, FORK, FORK, RING, CHAIN[:3], TWO_PARTS] + [wear[:8] for wear in some_wears(12)]
    cases = []
    for number in range(many):
        book, wear, parents = chance.choice(books), chance.choice(wears), chance.choice(PARENTS)
        text = chance.choice(plain_texts(book, number % 4) or ["a" * (number % 4)])
        rows = ["".join(chance.choice(plain_ends(wear, sign) + "??") for sign in text) for _ in range(len(parents) + 1)]
        if number % 3 == 0:
            # A row that may not be of this text.
            rows[0] = "".join(chance.choices("???.abce", k=len(text)))
        cases.append((book, wear, parents, tuple(rows)))
    return cases


def plain_ends(wear, sign):
    """A str of the worn signs to which a sign can come."""
    told_steps = plain_steps(wear)
    return "".join(worn for worn in sorted(SEEN) if (sign, worn) in told_steps)


CASES = some_cases(260)


# Four hundred texts of four signs, and one more.
JUST = (5, tuple((place, sign, place + 1) for place, many in enumerate((5, 4, 5, 4)) for sign in LETTERS[:many]), (4,))
MORE = (8, tuple(sorted(JUST[1] + ((0, "f", 5), (5, "a", 6), (6, "a", 7), (7, "a", 4)))), (4,))


class PlaceTest(unittest.TestCase):
    def test_one_stone(self):
        self.assertEqual(told(place_signs, EXAMPLE, "a"), ("a", "b", "c"))
        self.assertEqual(told(place_signs, EXAMPLE, "?"), tuple(LETTERS))
        self.assertEqual(told(place_steps, EXAMPLE, (), ".", "b"), 2)
        self.assertEqual(told(place_steps, EXAMPLE, (), "?", "b"), 0)
        self.assertIsNone(told(place_steps, EXAMPLE, (), "b", "a"))
        self.assertEqual(told(place_steps, (), (), "f", "f"), 0)

    def test_steps_ahead_of_a_copying_count_once(self):
        # The b that wears to a ahead of the copying is one step for both stones.
        self.assertEqual(told(place_steps, EXAMPLE, (0,), "aa", "b"), 1)
        self.assertEqual(told(place_steps, EXAMPLE, (0,), "a.", "b"), 2)
        self.assertEqual(told(place_steps, EXAMPLE, (0,), "..", "b"), 2)
        self.assertEqual(told(place_steps, EXAMPLE, (0,), "ab", "b"), 1)
        self.assertEqual(told(place_steps, EXAMPLE, (0,), "ba", "b"), 1)
        self.assertEqual(told(place_steps, CHAIN, (0, 0, 0), "....", "a"), 6)
        self.assertEqual(told(place_steps, CHAIN, (0, 1, 2), "....", "a"), 6)

    def test_what_is_broken_off(self):
        # What is seen as "?" wears for its copy alone, or not at all.
        self.assertEqual(told(place_steps, EXAMPLE, (0,), "?.", "b"), 2)
        self.assertEqual(told(place_steps, EXAMPLE, (0,), ".?", "b"), 2)
        self.assertEqual(told(place_steps, EXAMPLE, (0, 1), "a?a", "b"), 1)
        self.assertEqual(told(place_steps, CHAIN, (0, 1, 1), "a?cc", "a"), 2)
        self.assertEqual(told(place_steps, CHAIN, (0, 0, 0), "a?cc", "a"), 4)
        self.assertEqual(told(place_steps, (), (0, 1, 2), "????", "a"), 0)

    def test_the_order_of_the_copies(self):
        # Stone 0 is copied first, then wears, and is copied again: not the other way round.
        self.assertEqual(told(place_steps, CHAIN, (0, 0), "bab", "a"), 1)
        self.assertEqual(told(place_steps, CHAIN, (0, 0), "bba", "a"), 2)
        self.assertEqual(told(place_steps, CHAIN, (0, 1), "bba", "a"), 2)
        self.assertEqual(told(place_steps, CHAIN, (0, 1), "abb", "a"), 1)
        self.assertEqual(told(place_steps, CHAIN, (0, 0), "abb", "a"), 2)

    def test_ways_that_part(self):
        self.assertEqual(told(place_steps, FORK, (0,), "de", "a"), 3)
        self.assertEqual(told(place_steps, FORK, (0, 0), "ded", "a"), 3)
        self.assertEqual(told(place_steps, FORK, (0, 1), "ded", "a"), 4)
        self.assertEqual(told(place_steps, FORK, (0, 0), "dde", "c"), 4)
        self.assertEqual(told(place_steps, FORK, (0, 1), "d.e", "c"), 4)
        self.assertIsNone(told(place_steps, FORK, (0, 1), "d.a", "c"))

    def test_as_worked_out_plainly(self):
        chance = random.Random(24)
        wears = [(), EXAMPLE, FORK, RING, TWO_PARTS] + [wear[:10] for wear in some_wears(20)]
        columns = ["".join(column) for many in range(1, 5) for column in itertools.product(".?abce", repeat=many)]
        for _ in range(700):
            wear = chance.choice(wears)
            parents = chance.choice(PARENTS)
            column = chance.choice([column for column in columns if len(column) == len(parents) + 1])
            plain = plain_place_steps(wear, parents, column)
            with self.subTest(wear=wear, parents=parents, column=column):
                self.assertEqual(told(place_signs, wear, column), tuple(sorted(plain)))
                for sign in LETTERS:
                    self.assertEqual(place_steps(wear, parents, column, sign), plain.get(sign))

    def test_each_sign_of_a_column(self):
        for column in [one + other for one in SEEN for other in SEEN]:
            plain = plain_place_steps(CHAIN, (0,), column)
            self.assertEqual(told(place_signs, CHAIN, column), tuple(sorted(plain)))
            for sign in LETTERS:
                self.assertEqual(told(place_steps, CHAIN, (0,), column, sign), plain.get(sign))

    def test_kinds(self):
        check_kinds(self, place_signs, [EXAMPLE, "a"], [(BadWear, bad_wears()), (BadColumn, bad_columns())])
        check_kinds(self, place_steps, [EXAMPLE, (0,), "aa", "b"],
                    [(BadWear, bad_wears()), (BadParents, bad_parents()), (BadColumn, bad_columns()),
                     (BadSign, bad_signs(LETTERS))])

    def test_as_many_signs_as_stones(self):
        for parents in PARENTS:
            for column in ("a", "?a", "?a.", "a?b."):
                if len(column) != len(parents) + 1:
                    with self.subTest(parents=parents, column=column):
                        with self.assertRaises(BadColumn):
                            place_steps(EXAMPLE, parents, column, "a")
                        # The number of signs hangs on the parents, so it comes behind the kinds.
                        with self.assertRaises(BadSign):
                            place_steps(EXAMPLE, parents, column, ".")
                        with self.assertRaises(BadSign):
                            place_steps(EXAMPLE, parents, column, Odd())
                else:
                    place_steps(EXAMPLE, parents, column, "a")


class CopiesTest(unittest.TestCase):
    def test_as_worked_out_plainly(self):
        for book, wear, parents, rows in CASES:
            with self.subTest(book=book, wear=wear, parents=parents, rows=rows):
                found = plain_texts_cut(book, wear, parents, rows)
                texts = [text for text, _ in found]
                self.assertEqual(told(copies_count, book, wear, rows), len(texts))
                self.assertEqual(told(copies_readings, book, wear, rows), texts)
                signs = [{text[place] for text in texts} for place in range(len(rows[0]))]
                sure = "".join(sorted(some)[0] if len(some) == 1 else "?" for some in signs) if texts else None
                self.assertEqual(told(copies_sure, book, wear, rows), sure)
                least = min([(steps, text) for text, steps in found], default=None)
                self.assertEqual(told(copies_least, book, wear, parents, rows), least)
                for count in range(8):
                    within = len([1 for _, steps in found if steps <= count])
                    self.assertEqual(told(copies_within, book, wear, parents, rows, count), within)
                for place in range(len(rows[0])):
                    steps = {}
                    for text, many in found:
                        steps[text[place]] = min(many, steps.get(text[place], many))
                    self.assertEqual(told(sign_steps, book, wear, parents, rows, place), sorted(steps.items()))

    def test_the_cases_are_of_many_kinds(self):
        counts = [copies_count(book, wear, rows) for book, wear, _, rows in CASES]
        self.assertGreater(len([1 for count in counts if count == 0]), 20)
        self.assertGreater(len([1 for count in counts if count == 1]), 20)
        self.assertGreater(len([1 for count in counts if count > 1]), 20)

    def test_one_stone_is_one_row(self):
        for book, wear, _, rows in CASES:
            row = rows[0]
            self.assertEqual(copies_count(book, wear, (row,)), count_readings(book, wear, row))
            self.assertEqual(copies_readings(book, wear, (row,)), readings(book, wear, row))
            self.assertEqual(copies_sure(book, wear, (row,)), sure_signs(book, wear, row))
            self.assertEqual(copies_least(book, wear, (), (row,)), least_worn(book, wear, row))

    def test_rows_without_signs(self):
        for stones in range(1, 5):
            rows = ("",) * stones
            parents = (0,) * (stones - 1)
            for book, count in ((BOOK, 1), (LINE, 0)):
                self.assertEqual(told(copies_count, book, EXAMPLE, rows), count)
                self.assertEqual(told(copies_readings, book, EXAMPLE, rows), [""] * count)
                self.assertEqual(told(copies_sure, book, EXAMPLE, rows), "" if count else None)
                self.assertEqual(told(copies_least, book, EXAMPLE, parents, rows), (0, "") if count else None)
                self.assertEqual(told(copies_within, book, EXAMPLE, parents, rows, 0), count)
                for place in (0, -1, 1, 10 ** 59):
                    with self.assertRaises(BadPlace):
                        sign_steps(book, EXAMPLE, parents, rows, place)

    def test_several_stones_tell_more(self):
        self.assertEqual(told(copies_readings, BOOK, EXAMPLE, ("a.", "?c")), ["ac", "bc"])
        self.assertEqual(told(copies_sure, BOOK, EXAMPLE, ("a.", "?c")), "?c")
        self.assertEqual(told(copies_readings, BOOK, EXAMPLE, ("a.", "bc", "?a")), ["bc"])
        self.assertEqual(told(copies_readings, BOOK, EXAMPLE, ("ca", "??")), [])
        self.assertEqual(told(copies_least, BOOK, EXAMPLE, (0,), ("a.", "?c")), (2, "ac"))
        self.assertEqual(told(copies_least, BOOK, EXAMPLE, (0, 1), ("a.", "bc", "?a")), (4, "bc"))
        self.assertEqual(told(sign_steps, BOOK, EXAMPLE, (0,), ("a.", "?c"), 0), [("a", 2), ("b", 3)])
        self.assertEqual(told(sign_steps, BOOK, EXAMPLE, (0,), ("a.", "?c"), 1), [("c", 2)])
        self.assertEqual(told(sign_steps, BOOK, EXAMPLE, (0,), ("c.", "?c"), 1), [])

    def test_just_four_hundred_texts(self):
        for many, book in ((400, JUST), (401, MORE)):
            for stones in range(1, 5):
                rows = ("????",) * stones
                parents = (0,) * (stones - 1)
                with self.subTest(many=many, stones=stones):
                    self.assertEqual(told(copies_count, book, (), rows), many)
                    if many > 400:
                        with self.assertRaises(TooMany):
                            copies_readings(book, (), rows)
                    else:
                        self.assertEqual(told(copies_readings, book, (), rows), plain_texts(book, 4))
                    # None of the others tells that they are too many.
                    self.assertEqual(told(copies_sure, book, (), rows), "????")
                    self.assertEqual(told(copies_least, book, (), parents, rows), (0, "aaaa"))
                    self.assertEqual(told(copies_within, book, (), parents, rows, 0), many)
                    self.assertEqual([sign for sign, _ in sign_steps(book, (), parents, rows, 1)], list("abcd"))
                    self.assertEqual(told(best_parents, book, (), rows), (0, plain_parents(stones)))
                    if stones > 1:
                        self.assertEqual(told(needless_copies, book, (), rows), list(range(stones)))
        with self.assertRaises(BadRows):
            copies_readings(MORE, (), ("????", "???"))

    def test_twenty_four_signs(self):
        rows = ("." * 24, "?" * 24, "f" * 24, "." * 24)
        self.assertEqual(told(copies_count, ALL, CHAIN, rows), 6 ** 24)
        self.assertEqual(told(copies_least, ALL, CHAIN, (0, 1, 2), rows), (48, "f" * 24))
        self.assertEqual(told(copies_within, ALL, CHAIN, (0, 1, 2), rows, 47), 0)
        self.assertEqual(told(copies_within, ALL, CHAIN, (0, 1, 2), rows, 48), 1)
        self.assertEqual(told(copies_within, ALL, CHAIN, (0, 1, 2), rows, 49), 1 + 24)
        self.assertEqual(told(copies_within, ALL, CHAIN, (0, 1, 2), rows, 500), 6 ** 24)
        self.assertEqual(told(sign_steps, ALL, CHAIN, (0, 1, 2), rows, 23),
                         [(sign, 48 + 5 - at) for at, sign in enumerate(LETTERS)])
        ends = ("." * 24,) * 4
        self.assertEqual(told(copies_within, cycle(1, (0,)), CHAIN, (0, 0, 0), ends, 500), 1)
        self.assertEqual(copies_least(cycle(1, (0,)), CHAIN, (0, 0, 0), ends), (144, "a" * 24))

    def test_many_steps(self):
        # From a two ways lead that part at once, so hardly a step is one for two stones.
        wear = (("a", "b"), ("a", "c"), ("b", "d"), ("c", "e"), ("d", "f"), ("e", "."))
        rows = ("f" * 24, "." * 24, "f" * 24, "." * 24)
        for parents in plain_parents(4):
            least = 24 * plain_place_steps(wear, parents, "f.f.")["a"]
            self.assertEqual(told(copies_least, cycle(1, (0,)), wear, parents, rows), (least, "a" * 24))
            for count in (least - 1, least, 500):
                self.assertEqual(copies_within(cycle(1, (0,)), wear, parents, rows, count), int(count >= least))

    def test_kinds(self):
        first = [(BadBook, bad_books()), (BadWear, bad_wears())]
        rows = (BadRows, bad_rows())
        good = [BOOK, EXAMPLE, ("a.", "?c")]
        for function in (copies_count, copies_readings, copies_sure, needless_copies, best_parents):
            check_kinds(self, function, good, first + [rows])
        second = first + [(BadParents, bad_parents()), rows]
        good = [BOOK, EXAMPLE, (0,), ("a.", "?c")]
        check_kinds(self, copies_least, good, second)
        check_kinds(self, copies_within, good + [3], second + [(BadCount, bad_counts(0, 500))])
        check_kinds(self, sign_steps, good + [1], second + [(BadPlace, NO_INTEGERS)])

    def test_places(self):
        for place in (-1, 2, 3, 24, 10 ** 59, -10 ** 59):
            with self.assertRaises(BadPlace):
                sign_steps(BOOK, EXAMPLE, (0,), ("a.", "?c"), place)

    def test_one_row_for_each_stone(self):
        for parents in PARENTS:
            for stones in range(1, 5):
                rows = ("a.",) * stones
                if stones != len(parents) + 1:
                    with self.subTest(parents=parents, stones=stones):
                        for call in ((copies_least, ()), (copies_within, (3,)), (sign_steps, (1,)), (sign_steps, (2,)),
                                     (sign_steps, (-1,))):
                            with self.assertRaises(BadRows):
                                call[0](BOOK, EXAMPLE, parents, rows, *call[1])
                        # As many as the parents ask is judged behind the kinds.
                        with self.assertRaises(BadCount):
                            copies_within(BOOK, EXAMPLE, parents, rows, 501)
                        with self.assertRaises(BadPlace):
                            sign_steps(BOOK, EXAMPLE, parents, rows, True)


class ParentsTest(unittest.TestCase):
    def test_needless_as_worked_out_plainly(self):
        for book, wear, _, rows in CASES:
            if len(rows) > 1:
                with self.subTest(book=book, wear=wear, rows=rows):
                    whole = len(plain_texts_cut(book, wear, (0,) * (len(rows) - 1), rows))
                    expected = []
                    for stone in range(len(rows)):
                        rest = rows[:stone] + rows[stone + 1:]
                        if len(plain_texts_cut(book, wear, (0,) * (len(rest) - 1), rest)) == whole:
                            expected.append(stone)
                    self.assertEqual(told(needless_copies, book, wear, rows), expected)

    def test_needless_by_hand(self):
        self.assertEqual(told(needless_copies, BOOK, EXAMPLE, ("aa", "aa")), [0, 1])
        self.assertEqual(told(needless_copies, BOOK, EXAMPLE, ("aa", "a.")), [0, 1])
        self.assertEqual(told(needless_copies, BOOK, EXAMPLE, ("ac", "a.")), [1])
        self.assertEqual(told(needless_copies, BOOK, EXAMPLE, ("?c", "b?")), [])
        self.assertEqual(told(needless_copies, BOOK, EXAMPLE, ("?c", "b?", "bc")), [0, 1, 2])
        self.assertEqual(told(needless_copies, BOOK, EXAMPLE, ("d?", "?d")), [0, 1])
        for rows in (("aa",), ("",), ("?",)):
            with self.assertRaises(BadRows):
                needless_copies(BOOK, EXAMPLE, rows)

    def test_best_parents_as_worked_out_plainly(self):
        for book, wear, _, rows in CASES:
            with self.subTest(book=book, wear=wear, rows=rows):
                sums = []
                for parents in plain_parents(len(rows)):
                    found = plain_texts_cut(book, wear, parents, rows)
                    sums += [(min(steps for _, steps in found), parents)] if found else []
                least = min(sums)[0] if sums else None
                expected = (least, [parents for steps, parents in sums if steps == least]) if sums else None
                self.assertEqual(told(best_parents, book, wear, rows), expected)

    def test_best_parents_by_hand(self):
        self.assertEqual(told(best_parents, BOOK, EXAMPLE, ("a.",)), (1, [()]))
        self.assertEqual(told(best_parents, ALL, CHAIN, ("aa", "bb", "bb")), (2, [(0, 1)]))
        self.assertEqual(told(best_parents, ALL, CHAIN, ("bb", "aa", "bb")), (2, [(0, 0)]))
        self.assertEqual(told(best_parents, ALL, CHAIN, ("bb", "bb", "bb")), (0, [(0, 0), (0, 1)]))
        self.assertEqual(told(best_parents, ALL, CHAIN, ("a", "b", "c", "d")), (3, [(0, 1, 2)]))
        self.assertIsNone(told(best_parents, BOOK, EXAMPLE, ("d", "a")))
        self.assertIsNone(told(best_parents, NOTHING, EXAMPLE, ("", "", "")))

    def test_apart_as_worked_out_plainly(self):
        wears = [(), EXAMPLE, CHAIN[:3], FORK, RING]
        for wear in wears:
            for stones in (1, 2, 3):
                tables = {parents: self.plain_table(wear, parents) for parents in plain_parents(stones)}
                for one, other in itertools.product(tables, tables):
                    unlike = [key for key in tables[one] if tables[one][key] != tables[other][key]]
                    with self.subTest(wear=wear, one=one, other=other):
                        self.assertEqual(told(parents_apart, wear, one, other), min(unlike, default=None))

    def plain_table(self, wear, parents):
        """A dict of the steps for all columns and signs."""
        found = {}
        for column in itertools.product(sorted(SEEN), repeat=len(parents) + 1):
            plain = plain_place_steps(wear, parents, column)
            for sign in LETTERS:
                found[("".join(column), sign)] = plain.get(sign)
        return found

    def test_apart_with_four_stones(self):
        for wear in (EXAMPLE, FORK, CHAIN[:3]):
            for one, other in itertools.product(plain_parents(4), plain_parents(4)):
                apart = parents_apart(wear, one, other)
                with self.subTest(wear=wear, one=one, other=other):
                    self.assertEqual(apart is None, one == other)
                    if apart:
                        self.assertEqual(apart, told(parents_apart, wear, other, one))
                        column, sign = apart
                        first = plain_place_steps(wear, one, column).get(sign)
                        self.assertEqual(first, place_steps(wear, one, column, sign))
                        self.assertNotEqual(first, plain_place_steps(wear, other, column).get(sign))
                        for less in itertools.product(".?a", repeat=4):
                            if "".join(less) < column:
                                self.assertEqual(plain_place_steps(wear, one, less), plain_place_steps(wear, other, less))
        for one in plain_parents(4):
            self.assertIsNone(told(parents_apart, (), one, (0, 1, 2)))

    def test_apart_kinds(self):
        check_kinds(self, parents_apart, [EXAMPLE, (0,), (0,)],
                    [(BadWear, bad_wears()), (BadParents, bad_parents()), (BadParents, bad_parents())])
        for one, other in itertools.product(PARENTS, PARENTS):
            if len(one) != len(other):
                with self.assertRaises(BadParents):
                    parents_apart(EXAMPLE, one, other)


if __name__ == "__main__":
    unittest.main()
