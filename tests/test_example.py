"""Point 38: the example of the document."""

import unittest

from tests.plain import BOOK, plain_texts, told
from tests.things import EXAMPLE
from wornstones.alike import alike_holds, least_alike, safe_paper, safe_paper_holds
from wornstones.books import is_book, is_of
from wornstones.desk import Desk
from wornstones.doubts import best_cuts, enough_cuts, first_cuts
from wornstones.finds import Finds
from wornstones.looks import answer_paper, look_plan, looks_needed, plan_looks
from wornstones.papers import reading_paper, reading_paper_holds
from wornstones.readings import count_readings, least_worn, readings
from wornstones.texts import show_book, show_wear
from wornstones.wears import common, cut_deeper, is_wear, steps


class ExampleTest(unittest.TestCase):
    def test_the_book_and_the_wear(self):
        self.assertEqual(BOOK, (2, ((0, "a", 1), (0, "b", 1), (1, "a", 0), (1, "c", 0)), (0,)))
        self.assertEqual(EXAMPLE, (("a", "."), ("b", "a"), ("c", "a")))
        self.assertIs(is_book(BOOK), True)
        self.assertIs(is_wear(EXAMPLE), True)
        self.assertEqual(plain_texts(BOOK, 2), ["aa", "ac", "ba", "bc"])
        self.assertEqual([is_of(BOOK, text) for text in ("", "a", "bc", "cb", "bca", "bcaa")],
                         [True, False, True, False, False, True])
        self.assertEqual([steps(EXAMPLE, sign, ".") for sign in "abcd"], [1, 2, 2, None])

    def test_the_row(self):
        self.assertEqual(told(count_readings, BOOK, EXAMPLE, "a."), 4)
        self.assertEqual(told(readings, BOOK, EXAMPLE, "a."), ["aa", "ac", "ba", "bc"])
        self.assertEqual(told(least_worn, BOOK, EXAMPLE, "a."), (1, "aa"))
        self.assertIs(reading_paper_holds(BOOK, EXAMPLE, "a.", 4, reading_paper(BOOK, EXAMPLE, "a.")), True)

    def test_what_looks_alike(self):
        self.assertEqual(told(least_alike, BOOK, EXAMPLE), 1)
        self.assertIs(told(alike_holds, BOOK, EXAMPLE, 1, ("aa", "ac", "aa")), True)
        self.assertIs(told(safe_paper_holds, BOOK, EXAMPLE, 0, safe_paper(BOOK, EXAMPLE)), True)
        self.assertIs(told(safe_paper_holds, BOOK, EXAMPLE, 1, safe_paper(BOOK, EXAMPLE)), False)

    def test_what_to_cut_deeper(self):
        self.assertEqual(told(best_cuts, BOOK, EXAMPLE), (1, ["a", "b", "c", "d", "e", "f"]))
        self.assertEqual(told(enough_cuts, BOOK, EXAMPLE), 2)
        self.assertEqual(told(first_cuts, BOOK, EXAMPLE), ("b", "c"))
        both = cut_deeper(cut_deeper(EXAMPLE, "b"), "c")
        self.assertEqual([common(both, one, other) for one, other in ("ab", "ac", "bc")], [None] * 3)
        self.assertIsNone(least_alike(BOOK, both))

    def test_two_looks_settle_the_lot(self):
        lot = readings(BOOK, EXAMPLE, "a.")
        self.assertEqual(told(looks_needed, lot), 2)
        self.assertEqual(told(plan_looks, lot, look_plan(lot)), 2)
        self.assertIsNone(told(answer_paper, lot, 2))
        finds = Finds(BOOK, EXAMPLE)
        finds.find("a.")
        self.assertEqual(finds.needed(), 2)
        self.assertEqual(finds.readings(), lot)

    def test_at_the_desk(self):
        desk = Desk()
        said = [f"book {show_book(BOOK)}", f"wear {show_wear(EXAMPLE)}", "find a.", "count", "least", "alike", "cuts", "needed"]
        self.assertEqual([desk.say(row) for row in said], ["ok", "ok", "ok", "4", "1 aa", "1", "abcdef", "2"])


if __name__ == "__main__":
    unittest.main()
