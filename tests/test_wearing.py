"""Points 2, 4 and 7: row_steps, worn_by, shortest_wear."""

import itertools
import random
import unittest

from tests.things import CHAIN, EXAMPLE, LETTERS, Odd, RING, SEEN, TWO_PARTS, WORN
from tests.things import bad_strs, bad_wears, nested, other_kinds, plain_steps, some_wears
from wornstones.errors import BadDeeds, BadRow, BadText, BadWear
from wornstones.wearing import row_steps, shortest_wear, worn_by

WEARS = some_wears(60)
BACK_AND_FORTH = (("a", "b"), ("b", "a"))


def some_rows(many, longest):
    """As many texts and rows of one length, the same ones in each run."""
    chance = random.Random(7)
    pairs = []
    for number in range(many):
        length = number % (longest + 1)
        text = "".join(chance.choices(LETTERS, k=length))
        pairs.append((text, "".join(chance.choices(SEEN, k=length))))
        # A row that stays close to the text: most rows by chance can never come of it.
        near = "".join(chance.choice([sign, sign, "?", ".", "a"]) for sign in text)
        pairs.append((text, near))
    return pairs


def plain_row_steps(wear, text, row):
    """What row_steps tells, by plain_steps."""
    told = plain_steps(wear)
    if len(text) != len(row):
        return None
    sums = [0 if other == "?" else told.get((one, other)) for one, other in zip(text, row)]
    return None if None in sums else sum(sums)


def all_shortest(wear, text, row):
    """All shortest lists of deeds from text to row, by trying all deeds, none at a "?"."""
    lists = [([], text)]
    for _ in range(20):
        done = [deeds for deeds, now in lists
                if all(other in ("?", sign) for sign, other in zip(now, row))]
        if done:
            return done
        lists = [(deeds + [(place, other)], now[:place] + other + now[place + 1:])
                 for deeds, now in lists for place, sign in enumerate(now) if row[place] != "?"
                 for one, other in wear if one == sign]
        if len(lists) > 20000 or not lists:
            return None
    return None


class RowStepsTest(unittest.TestCase):
    def test_sums(self):
        self.assertEqual(row_steps(EXAMPLE, "bc", "a."), 3)
        self.assertEqual(row_steps(EXAMPLE, "aa", "a."), 1)
        self.assertEqual(row_steps(EXAMPLE, "bc", "bc"), 0)
        self.assertEqual(row_steps(EXAMPLE, "bc", "??"), 0)
        self.assertEqual(row_steps(EXAMPLE, "bdc", "a?a"), 2)
        self.assertEqual(row_steps(EXAMPLE, "bdc", ".?."), 4)
        self.assertIsNone(row_steps(EXAMPLE, "bdc", "a.a"))
        self.assertIsNone(row_steps(EXAMPLE, "ab", "ba"))
        self.assertIsNone(row_steps(EXAMPLE, "ad", "aa"))

    def test_unlike_lengths(self):
        for text, row in (("", "a"), ("a", ""), ("a", "aa"), ("aa", "a"), ("", "?"), ("a" * 24, "?" * 23)):
            self.assertIsNone(row_steps(EXAMPLE, text, row))
            self.assertIsNone(shortest_wear(EXAMPLE, text, row))

    def test_no_signs_at_all(self):
        self.assertEqual(row_steps(EXAMPLE, "", ""), 0)
        self.assertIs(type(row_steps((), "", "")), int)

    def test_twenty_four_signs(self):
        self.assertEqual(row_steps(CHAIN, "a" * 24, "." * 24), 144)
        self.assertEqual(row_steps(CHAIN, "abcdef" * 4, "." * 24), 84)
        self.assertEqual(row_steps(CHAIN, "a" * 24, "?" * 24), 0)
        self.assertIsNone(row_steps(CHAIN, "a" * 23 + "b", "a" * 24))

    def test_as_worked_out_plainly(self):
        for wear in WEARS:
            for text, row in some_rows(12, 5):
                with self.subTest(wear=wear, text=text, row=row):
                    self.assertEqual(row_steps(wear, text, row), plain_row_steps(wear, text, row))

    def test_names(self):
        self.assertEqual(row_steps(wear=EXAMPLE, text="b", row="."), 2)
        self.assertEqual(row_steps(row=".", text="b", wear=EXAMPLE), 2)


class ErrorsOfKindTest(unittest.TestCase):
    """BadWear, BadText, BadRow in the order of the parameters."""

    def test_bad_wear(self):
        for number, wear in enumerate(bad_wears()):
            with self.subTest(number=number):
                for text, row in (("a", "a"), ("a", None), (None, "a"), (3, Odd()), ("g", "g")):
                    for function in (row_steps, shortest_wear, worn_by):
                        with self.assertRaises(BadWear):
                            function(wear, text, row)

    def test_bad_text(self):
        for number, text in enumerate(bad_strs(LETTERS)):
            with self.subTest(number=number):
                for row in ("", "a", "g", None, Odd()):
                    for function in (row_steps, shortest_wear):
                        with self.assertRaises(BadText):
                            function(EXAMPLE, text, row)
                for deeds in ([], [(0, "a")], None, Odd(), [None] * 200):
                    with self.assertRaises(BadText):
                        worn_by(EXAMPLE, text, deeds)

    def test_bad_row(self):
        for number, row in enumerate(bad_strs(SEEN)):
            with self.subTest(number=number):
                for text in ("", "a", "a" * 24):
                    for function in (row_steps, shortest_wear):
                        with self.assertRaises(BadRow):
                            function(EXAMPLE, text, row)

    def test_at_most_twenty_four_signs(self):
        self.assertEqual(row_steps((), "f" * 24, "f" * 24), 0)
        for function in (row_steps, shortest_wear):
            with self.assertRaises(BadText):
                function((), "f" * 25, "f" * 25)
            with self.assertRaises(BadRow):
                function((), "f" * 24, "f" * 25)
        self.assertEqual(worn_by((), "f" * 24, []), "f" * 24)
        with self.assertRaises(BadText):
            worn_by((), "f" * 25, [])


class WornByTest(unittest.TestCase):
    def test_deeds_that_can_be_done(self):
        self.assertEqual(worn_by(EXAMPLE, "bc", [(0, "a")]), "ac")
        self.assertEqual(worn_by(EXAMPLE, "bc", [(1, "a"), (0, "a"), (1, ".")]), "a.")
        self.assertEqual(worn_by(RING, "abc", [(0, "b"), (0, "c"), (0, "a"), (2, "a")]), "aba")
        self.assertEqual(worn_by(CHAIN, "a" * 24, [(23, "b"), (0, "b")]), "b" + "a" * 22 + "b")
        self.assertEqual(worn_by(wear=EXAMPLE, text="b", deeds=[(0, "a"), (0, ".")]), ".")

    def test_no_deeds(self):
        for text in ("", "a", "fed", "abcdef" * 4):
            self.assertEqual(worn_by(EXAMPLE, text, []), text)

    def test_one_hundred_deeds(self):
        deeds = [(0, "b"), (0, "a")] * 50
        self.assertEqual(worn_by(BACK_AND_FORTH, "a", deeds), "a")
        self.assertEqual(worn_by(BACK_AND_FORTH, "a", deeds[:99]), "b")

    def test_more_than_one_hundred_deeds(self):
        deeds = [(0, "b"), (0, "a")] * 80
        self.check(BACK_AND_FORTH, "a", deeds[:101], 100)
        self.check(BACK_AND_FORTH, "a", deeds, 100)
        self.check(BACK_AND_FORTH, "a", deeds[:100] + [None], 100)
        self.check(BACK_AND_FORTH, "a", deeds[:99] + [None] + deeds, 99)
        self.check(BACK_AND_FORTH, "a", deeds[:99] + [(0, "b")], 99)
        self.check(BACK_AND_FORTH, "a", [None] * 200, 0)

    def check(self, wear, text, deeds, place):
        with self.assertRaises(BadDeeds) as held:
            worn_by(wear, text, deeds)
        self.assertEqual(held.exception.place, place)
        self.assertIs(type(held.exception.place), int)

    def test_no_list(self):
        for number, deeds in enumerate(other_kinds() + ["", "ab", (), ((0, "a"),), nested(90)]):
            with self.subTest(number=number):
                self.check(EXAMPLE, "b", deeds, -1)

    def test_each_way_in_which_an_entry_can_be_none(self):
        entries = other_kinds() + [
            (), (0,), (0, "a", 0), (0, "a", "a"), [0, "a"], [], "0a", "a", ("a", 0), nested(90), [[0, "a"]],
            (-1, "a"), (-2, "a"), (2, "a"), (24, "a"), (10 ** 59, "a"), (-10 ** 59, "a"),
            (True, "a"), (False, "a"), (None, "a"), ("0", "a"), ("", "a"), ((0,), "a"), (Odd(), "a"), (1j, "a"),
            (0, "?"), (0, "g"), (0, ""), (0, "aa"), (0, "A"), (0, " "), (0, None), (0, 1), (0, True), (0, b"a"),
            (0, ("a",)), (0, ["a"]), (0, Odd()), (0, "b"), (0, "c"), (1, "."), (1, "d"),
        ]
        for number, entry in enumerate(entries):
            with self.subTest(number=number):
                # (0, "a") and (1, "a") can be done, ahead of the entry and behind it.
                self.check(EXAMPLE, "bc", [entry], 0)
                self.check(EXAMPLE, "bc", [entry, (0, "a")], 0)
                self.check(EXAMPLE, "bc", [entry, None], 0)
                self.check(EXAMPLE, "bc", [(0, "a"), entry], 1)
                self.check(EXAMPLE, "bc", [(0, "a"), (0, "."), entry, (1, "a")], 2)

    def test_what_the_deeds_ahead_leave(self):
        self.check(EXAMPLE, "b", [(0, "a"), (0, "a")], 1)
        self.check(EXAMPLE, "b", [(0, "a"), (0, "."), (0, "a")], 2)
        self.check(EXAMPLE, "b", [(0, "a"), (0, "."), (0, ".")], 2)
        self.check(RING, "aa", [(0, "b"), (1, "c"), (0, "c")], 1)
        self.check(EXAMPLE, "", [(0, "a")], 0)
        self.check((), "a" * 24, [(0, "a")], 0)

    def test_two_steps_at_once_are_no_deed(self):
        self.check(CHAIN, "a", [(0, "c")], 0)
        self.check(EXAMPLE, "b", [(0, ".")], 0)

    def test_the_place_behind_the_last_one(self):
        for length in range(25):
            deeds = [(place, "b") for place in range(length)]
            self.assertEqual(worn_by(CHAIN, "a" * length, deeds), "b" * length)
            self.check(CHAIN, "a" * length, deeds + [(length, "b")], length)

    def test_nothing_is_changed(self):
        deeds = [(0, "a"), (1, "a"), (1, ".")]
        self.assertEqual(worn_by(EXAMPLE, "bc", deeds), "a.")
        self.assertEqual(worn_by(EXAMPLE, "bc", deeds), "a.")
        self.assertEqual(deeds, [(0, "a"), (1, "a"), (1, ".")])
        deeds.append([3])
        self.check(EXAMPLE, "bc", deeds, 3)
        self.assertEqual(deeds, [(0, "a"), (1, "a"), (1, "."), [3]])


class ShortestWearTest(unittest.TestCase):
    def test_the_first_of_the_shortest(self):
        self.assertEqual(shortest_wear(EXAMPLE, "bc", "a."), [(0, "a"), (1, "a"), (1, ".")])
        self.assertEqual(shortest_wear(EXAMPLE, "bc", ".a"), [(0, "a"), (0, "."), (1, "a")])
        self.assertEqual(shortest_wear(RING, "aab", "cba"), [(0, "b"), (0, "c"), (1, "b"), (2, "c"), (2, "a")])

    def test_the_least_sign_that_leads_on(self):
        diamond = (("a", "c"), ("a", "d"), ("a", "e"), ("c", "f"), ("d", "b"), ("e", "b"), ("f", "b"))
        self.assertEqual(shortest_wear(diamond, "a", "b"), [(0, "d"), (0, "b")])
        # "." is less than all letters, but nothing comes of it.
        self.assertEqual(shortest_wear((("a", "."), ("a", "b"), ("b", "c")), "a", "c"), [(0, "b"), (0, "c")])

    def test_no_deeds(self):
        for text, row in (("", ""), ("abc", "abc"), ("abc", "???"), ("abc", "a?c"), ("f" * 24, "?" * 24)):
            self.assertEqual(shortest_wear(EXAMPLE, text, row), [])

    def test_none_just_where_row_steps_is(self):
        for wear in WEARS:
            for text, row in some_rows(12, 5) + [("a", ""), ("", "a"), ("ab", "a")]:
                with self.subTest(wear=wear, text=text, row=row):
                    told = shortest_wear(wear, text, row)
                    many = row_steps(wear, text, row)
                    self.assertEqual(told is None, many is None)
                    if told is not None:
                        self.check(wear, text, row, told, many)

    def check(self, wear, text, row, told, many):
        self.assertEqual(len(told), many)
        self.assertTrue(all(row[place] != "?" for place, worn in told))
        behind = worn_by(wear, text, told)
        self.assertEqual(behind, "".join(one if other == "?" else other for one, other in zip(text, row)))

    def test_as_found_by_trying_all_lists(self):
        tried = 0
        wears = [wear for wear in WEARS if len(wear) <= 12]
        for wear in wears:
            for text, row in some_rows(9, 3) + [("bc", ".."), ("ae", "e?"), ("abd", "..d")]:
                if row_steps(wear, text, row) is not None:
                    lists = all_shortest(wear, text, row)
                    if lists is not None:
                        with self.subTest(wear=wear, text=text, row=row):
                            self.assertEqual(shortest_wear(wear, text, row), min(lists))
                            tried += 1
        self.assertGreater(tried, 200)

    def test_twenty_four_signs(self):
        told = shortest_wear(CHAIN, "a" * 24, "." * 24)
        self.assertEqual(told, [(place, worn) for place in range(24) for worn in "bcdef."])
        self.assertEqual(len(told), 144)
        near = shortest_wear(CHAIN, "abcdef" * 4, "?bd?f." * 4)
        self.assertEqual(near, [(place + 6 * part, worn) for part in range(4)
                                for place, worn in ((2, "d"), (4, "f"), (5, "."))])
        self.assertEqual(worn_by(CHAIN, "abcdef" * 4, near), "abddf." * 4)

    def test_the_list_is_new(self):
        told = shortest_wear(EXAMPLE, "bc", "a.")
        self.assertIs(type(told), list)
        self.assertEqual({type(deed) for deed in told}, {tuple})
        told.clear()
        self.assertEqual(shortest_wear(EXAMPLE, "bc", "a."), [(0, "a"), (1, "a"), (1, ".")])
        self.assertIsNot(shortest_wear((), "", ""), shortest_wear((), "", ""))

    def test_names(self):
        self.assertEqual(shortest_wear(wear=EXAMPLE, text="b", row="a"), [(0, "a")])

    def test_one_step_pairs(self):
        for one, other in itertools.product(WORN, WORN):
            if one != ".":
                told = shortest_wear(TWO_PARTS, one, other)
                if (one, other) in TWO_PARTS:
                    self.assertEqual(told, [(0, other)])
                else:
                    self.assertNotEqual(told, [(0, other)])


if __name__ == "__main__":
    unittest.main()
