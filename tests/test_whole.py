"""Point 2, over the whole program."""

import copy
import importlib
import inspect
import unittest

from tests.plain import BOOK, told
from tests.test_language import INTERFACE
from tests.things import EXAMPLE, Odd
from wornstones import errors
from wornstones.finds import Finds

CLEAR = (4, ((0, "a", 1), (0, "b", 2), (1, "a", 3), (2, "b", 3)), (3,))
STILL = (("a", "c"), ("b", "c"))
LOT = ["aa", "ac", "ba", "bc"]
PLAN = [(("aa", "ac"), 1), (("aa", "ac", "ba", "bc"), 0), (("ba", "bc"), 1)]
PAPER = [(("aa", "ac"), 0), (("aa", "ac", "ba", "bc"), 1), (("aa", "ba"), 0)]

# Good arguments for each function, by the names that stand in the interface.
GOOD = {"book": BOOK, "wear": EXAMPLE, "text": "bc", "row": "a.", "count": 2, "number": 1, "stone": (("a",), 1, 3),
        "size": (1, 2), "pieces": (("c",), ("b",)), "column": "aa", "parents": (0,), "sign": "b", "rows": ("a.", "?c"),
        "place": 1, "lot": LOT, "speed": 1, "cuts": 1, "most": 1, "seen": "a", "width": 1, "deeds": [(0, "a")],
        "lines": ["b", "c"], "one": "b", "other": "c", "thing": None}
SPECIAL = {
    "wears_apart": {"other": ()}, "books_apart": {"other": CLEAR}, "both_books": {"other": CLEAR},
    "either_book": {"other": CLEAR}, "row_apart": {"other": CLEAR}, "parents_apart": {"parents": (0, 0), "other": (0, 1)},
    "alike_holds": {"thing": ("aa", "ac", "aa")}, "safe_paper_holds": {"thing": [(0, 0, False, 0)]},
    "reading_paper_holds": {"number": 4, "thing": [[(0, 4)], [(1, 2)], [(0, 1)]]},
    "plan_looks": {"thing": PLAN}, "answers_hold": {"count": 1, "thing": PAPER}, "answer_paper": {"count": 1},
    "guarded_years": {"book": CLEAR, "wear": STILL, "text": "aa"}, "guard_way": {"book": CLEAR, "wear": STILL, "text": "aa"},
    "guard_holds": {"book": CLEAR, "wear": STILL, "text": "aa", "thing": [("aa", ()), ("ac", (1,)), ("ca", (0,))]},
    "wear_way": {"book": CLEAR, "wear": STILL, "text": "aa", "cuts": 0, "number": 2},
    "wear_holds": {"book": CLEAR, "wear": STILL, "text": "aa", "cuts": 0, "number": 2,
                   "thing": [("aa", 2, "ac"), ("ac", 1, "cc")]},
    "is_wear": {"thing": EXAMPLE}, "is_book": {"thing": BOOK}, "undittoed": {"lines": ["b", "c"]},
    "read_wear": {"text": "a>. b>a"}, "read_book": {"text": "2 doors 0 a 1 ; 1 b 0 ends 0 1"}, "read_row": {"text": "a.?"},
    "read_text": {"text": "abc"}, "layings": {"wear": ()}, "laying_counts": {"wear": ()}, "sure_laying": {"wear": ()},
    "sure_page": {"wear": ()}, "telling_pieces": {"wear": ()}, "sure_signs": {"row": "b."},
}
# The errors of kind, by the names of the arguments; those of other functions stand behind them.
KINDS = {"book": "BadBook", "wear": "BadWear", "text": "BadText", "row": "BadRow", "count": "BadCount", "number": "BadNumber",
         "stone": "BadStone", "size": "BadSize", "pieces": "BadPieces", "column": "BadColumn", "parents": "BadParents",
         "sign": "BadSign", "rows": "BadRows", "place": "BadPlace", "lot": "BadLot", "speed": "BadCount", "cuts": "BadCount",
         "seen": "BadSign", "width": "BadCount", "deeds": "BadDeeds", "lines": "BadLines", "one": "BadSign"}
OTHERS = {"steps": "BadSign", "common": "BadSign", "wears_apart": "BadWear", "books_apart": "BadBook", "both_books": "BadBook",
          "either_book": "BadBook", "row_apart": "BadBook", "parents_apart": "BadParents"}
# What takes an integer or any object without an error, or what promises nothing for other things.
FREE = {("reading_paper_holds", "number"), ("alike_holds", "most"), ("safe_paper_holds", "most"), ("show_wear", "wear"),
        ("show_book", "book"), ("show_row", "row")}


def functions():
    """All functions of the interface, each with good arguments, a dict by their names."""
    found = []
    for module, names in INTERFACE.items():
        held = importlib.import_module("wornstones." + module)
        for name, arguments in names.items():
            found.append((getattr(held, name), {one: SPECIAL.get(name, {}).get(one, GOOD[one]) for one in arguments}))
    return found


def error_of_kind(name, argument):
    """The error for what is none of the kind of an argument, None if there is none."""
    if argument == "thing" or (name, argument) in FREE:
        return None
    if name.startswith("read_") and argument == "text":
        return errors.BadWords
    if name == "lines_known":
        return errors.BadSeen
    if name == "pairs_alike":
        return {"book": errors.BadBook, "wear": errors.BadWear}.get(argument, errors.BadCount)
    return getattr(errors, OTHERS[name] if argument == "other" else KINDS[argument])


def lists_in(thing):
    """All lists in what is returned."""
    found = [thing] if isinstance(thing, list) else []
    for part in thing if isinstance(thing, (list, tuple)) else []:
        found += lists_in(part)
    return found


class WholeTest(unittest.TestCase):
    def test_each_function_is_here(self):
        self.assertEqual(len(functions()), sum(len(names) for names in INTERFACE.values()))
        self.assertGreater(len(functions()), 90)

    def test_equal_calls(self):
        # By position and by names; nothing is changed, and the lists that are returned may be.
        for function, given in functions():
            with self.subTest(function=function.__name__):
                first = told(function, *given.values())
                self.assertEqual(repr(function(**dict(list(given.items())[::-1]))), repr(first))

    def test_no_list_stands_in_two_places(self):
        for function, given in functions():
            with self.subTest(function=function.__name__):
                found = lists_in(function(**given)) + lists_in(function(**given)) + lists_in(list(given.values()))
                self.assertEqual(len({id(one) for one in found}), len(found))

    def test_good_arguments_are_not_kept(self):
        for function, given in functions():
            lists = copy.deepcopy({name: thing for name, thing in given.items() if isinstance(thing, list)})
            if lists:
                with self.subTest(function=function.__name__):
                    first = function(**{**given, **lists})
                    shown = repr(first)
                    for thing in lists.values():
                        thing.clear()
                    self.assertEqual(repr(first), shown)

    def test_errors_in_the_order_of_the_parameters(self):
        for function, given in functions():
            names = list(given)
            for at, name in enumerate(names):
                error = error_of_kind(function.__name__, name)
                if error is None:
                    continue
                # Each of these is none of any kind.
                for wrong in (Odd(), None, True, False, 1j, "?g", {}, {"a"}, b"a"):
                    for behind in (Odd(), None, given):
                        rest = {one: given[one] if behind is given else behind for one in names[at + 1:]}
                        with self.subTest(function=function.__name__, name=name, wrong=type(wrong), behind=type(behind)):
                            with self.assertRaises(error) as held:
                                function(**{**given, **rest, name: wrong})
                            self.assertIs(type(held.exception), error)

    def test_true_and_false_stand_for_no_integer(self):
        # Each of these would be good with 1 or 0 in the place of True or False.
        for module, name, given, error in (
                ("books", "is_book", ((True, (), ()),), None), ("books", "is_book", ((1, ((False, "a", 0),), ()),), None),
                ("books", "is_book", ((1, ((0, "a", False),), ()),), None), ("books", "is_book", ((1, (), (False,)),), None),
                ("books", "count_of", (BOOK, True), "BadCount"), ("books", "nth_of", (BOOK, True, 0), "BadCount"),
                ("books", "nth_of", (BOOK, 2, True), "BadNumber"), ("lines", "wrapped", ("ab", True), "BadCount"),
                ("lines", "carved", ("ab", True), "BadCount"), ("wearing", "worn_by", (EXAMPLE, "bb", [(True, "a")]), "BadDeeds"),
                ("readings", "nth_reading", (BOOK, EXAMPLE, "a.", False), "BadNumber"),
                ("readings", "count_within", (BOOK, EXAMPLE, "a.", True), "BadCount"),
                ("readings", "sure_within", (BOOK, EXAMPLE, "a.", False), "BadCount"),
                ("papers", "reading_paper_holds", (BOOK, EXAMPLE, "", 1, [[(0, True)]]), None),
                ("papers", "reading_paper_holds", (BOOK, EXAMPLE, "", 1, [[(False, 1)]]), None),
                ("alike", "pairs_alike", (BOOK, EXAMPLE, True, 1), "BadCount"),
                ("alike", "pairs_alike", (BOOK, EXAMPLE, 2, True), "BadCount"),
                ("alike", "safe_paper_holds", ((1, (), ()), (), 5, [(False, 0, False, 0)]), None),
                ("alike", "safe_paper_holds", ((1, (), ()), (), 5, [(0, 0, 0, 0)]), None),
                ("alike", "safe_paper_holds", ((1, (), ()), (), 5, [(0, 0, False, False)]), None),
                ("doubts", "weakest", (BOOK, EXAMPLE, True), "BadCount"), ("stones", "stone_rows", ((("a",), True, 1),), "BadStone"),
                ("stones", "stone_rows", ((("a",), 1, True),), "BadStone"),
                ("pieces", "all_layings", ((True, 1), (("a",),)), "BadSize"),
                ("pieces", "all_layings", ((1, True), (("a",),)), "BadSize"),
                ("copies", "place_steps", (EXAMPLE, (False,), "aa", "a"), "BadParents"),
                ("copies", "copies_within", (BOOK, EXAMPLE, (), ("a.",), True), "BadCount"),
                ("copies", "sign_steps", (BOOK, EXAMPLE, (), ("a.",), True), "BadPlace"),
                ("looks", "plan_looks", (["aa", "ab"], [(("aa", "ab"), True)]), None),
                ("looks", "answer_paper", (LOT, True), "BadCount"), ("looks", "answers_hold", (LOT, True, PAPER), "BadCount"),
                ("looks", "answers_hold", (LOT, 0, [(tuple(LOT), False)]), None), ("looks", "looks_for", (LOT, True), "BadPlace"),
                ("years", "years_sure", (BOOK, EXAMPLE, "aa", True), "BadCount"),
                ("years", "guarded_years", (BOOK, EXAMPLE, "aa", True, 1), "BadCount"),
                ("years", "guarded_years", (BOOK, EXAMPLE, "aa", 1, False), "BadCount"),
                ("years", "guard_holds", (CLEAR, STILL, "aa", 1, 1, [("aa", ()), ("ac", (True,)), ("ca", (0,))]), None),
                ("years", "wear_way", (CLEAR, STILL, "aa", 1, 0, True), "BadNumber"),
                ("years", "wear_holds", (CLEAR, STILL, "aa", 1, 0, True, []), "BadNumber"),
                ("years", "wear_holds", (CLEAR, STILL, "aa", 1, 0, 2, [("aa", 2, "ac"), ("ac", True, "cc")]), None)):
            function = getattr(importlib.import_module("wornstones." + module), name)
            with self.subTest(name=name, given=given):
                if error is None:
                    self.assertIn(function(*given), (False, None))
                else:
                    with self.assertRaises(getattr(errors, error)):
                        function(*given)

    def test_no_integer_stands_for_true_or_false(self):
        # What tells whether something is so returns True or False themselves.
        for function, given in functions():
            if function.__name__.startswith("is_") or function.__name__.endswith("holds") or function.__name__ == "answers_hold":
                with self.subTest(function=function.__name__):
                    self.assertIsInstance(function(**given), bool)
                    if "thing" in given:
                        self.assertIs(function(**{**given, "thing": Odd()}), False)

    def test_integers_are_no_bools(self):
        for function, given in functions():
            thing = function(**given)
            if not isinstance(thing, bool):
                with self.subTest(function=function.__name__):
                    wave = [thing]
                    while wave:
                        part = wave.pop()
                        wave += list(part) if isinstance(part, (list, tuple)) else []
                        self.assertIn(type(part), (int, str, list, tuple, type(None), bool))
                        if isinstance(part, bool):
                            self.assertEqual(function.__name__, "safe_paper")

    def test_signatures(self):
        for function, given in functions():
            for parameter in inspect.signature(function).parameters.values():
                self.assertIs(parameter.default, inspect.Parameter.empty)
                self.assertIs(parameter.kind, inspect.Parameter.POSITIONAL_OR_KEYWORD)
        self.assertIsNone(inspect.signature(Finds.find).parameters["parent"].default)


if __name__ == "__main__":
    unittest.main()
