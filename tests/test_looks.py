"""Points 3, 27 and 28: looks at cleaned places, look plans and answer papers."""

import copy
import itertools
import random
import unittest

from tests.plain import bad_counts, check_kinds, strings, told
from tests.things import Odd, nested, other_kinds
from tests.wrong import NO_INTEGERS, bad_lots
from wornstones.errors import BadCount, BadLot, BadPlace, TooMany
from wornstones.looks import answer_paper, answers_hold, fewest_places, first_places, look_plan, looks_for
from wornstones.looks import looks_needed, place_set, plan_looks

FOUR = ["aa", "ac", "ba", "bc"]
PLAN = [(("aa", "ac"), 1), (("aa", "ac", "ba", "bc"), 0), (("ba", "bc"), 1)]
PAPER = [(("aa", "ac"), 0), (("aa", "ac", "ba", "bc"), 1), (("aa", "ba"), 0)]
# Looks at any places leave just 600 sets of two or more texts of these, and 601 of the others.
JUST = """aaaaaaabbb aaaababbaa aaaababbab aabababbab aabbaabaaa abaaaababb ababaabbaa abbaaabbbb abbbbbbbba baaabbaabb
baababaabb baabbabaab babaaabbab bababababa bbaabaaaaa bbaababbbb bbbabbabab bbbbaaabba bbbbaabbab bbbbbbaaab""".split()
MORE = """aaaaabbba aaaabbabb aaabababa aabaaaaba aabaaabbb aabaabaaa aababaaab aababaabb abaabaaba abaabbabb ababbabbb
ababbbbba abbabaaba abbbaaaab abbbbbaaa abbbbbbaa baaaaabab baaabbbab baabaaabb bababbbaa babbbbabb bbaabbbaa bbbbaaabb
bbbbbbbbb""".split()
# Forty texts: of almost each two a look leaves a set without them.
FORTY = sorted(["a" * 24] + ["a" * at + "bc"[many] + "a" * (23 - at) for at in range(24) for many in (0, 1)][:39])
LOOKS = (looks_needed, look_plan, first_places)


def parts(some, place):
    """The list of the tuples of the texts that have one sign at a place."""
    return [tuple(text for text in some if text[place] == sign) for sign in sorted({text[place] for text in some})]


def plain_sets(lot):
    """All sets of two or more texts that come by looks at any places: any signs at any places tell one."""
    found = {tuple(lot)} if len(lot) > 1 else set()
    wave = list(found)
    while wave:
        behind = {part for some in wave for place in range(len(lot[0])) for part in parts(some, place) if len(part) > 1}
        wave = list(behind - found)
        found |= behind
    return found


def plain_looks(some, kept=None):
    """The least number of looks, by trying all places one after the other."""
    kept = {} if kept is None else kept
    if len(some) < 2:
        return 0
    if some not in kept:
        told_parts = [parts(some, place) for place in range(len(some[0]))]
        kept[some] = 1 + min(max(plain_looks(part, kept) for part in one) for one in told_parts if len(one) > 1)
    return kept[some]


def plain_looks_for(some, place, kept):
    """What looks_for tells; 99 for never."""
    if len(parts(some, place)) == 1:
        return 0
    if some not in kept:
        told_parts = [parts(some, other) for other in range(len(some[0])) if other != place]
        numbers = [max(plain_looks_for(part, place, kept) for part in one) for one in told_parts if len(one) > 1]
        kept[some] = 1 + min(numbers, default=98)
    return min(kept[some], 99)


def is_plan(lot, plan):
    """Whether a list of tuples (some, place) is a look plan, by what point 27 says, one by one."""
    told_places = dict(plan)
    if len(told_places) < len(plan) or (len(lot) > 1 and tuple(lot) not in told_places):
        return False
    for some, place in plan:
        good = len(some) > 1 and list(some) == sorted(set(some)) and all(text in lot for text in some)
        if not good or len(parts(some, place)) < 2:
            return False
        if any(len(part) > 1 and part not in told_places for part in parts(some, place)):
            return False
    return True


def plan_number(some, told_places):
    """How many looks a plan takes at most."""
    if len(some) < 2:
        return 0
    return 1 + max(plan_number(part, told_places) for part in parts(some, told_places[some]))


def sets_of_plan(lot, plan):
    """The sets that come by a plan."""
    told_places = dict(plan)
    wave = [tuple(lot)] if len(lot) > 1 else []
    found = set(wave)
    while wave:
        wave = [part for some in wave for part in parts(some, told_places[some]) if len(part) > 1]
        found |= set(wave)
    return found


def is_answer(lot, number, paper):
    """Whether a list of tuples (some, left) is an answer paper, by what point 28 says, one by one."""
    lefts = dict(paper)
    if len(lefts) < len(paper) or lefts.get(tuple(lot)) != number:
        return False
    for some, left in paper:
        if len(some) < 2 or list(some) != sorted(set(some)) or not all(text in lot for text in some) or left < 0:
            return False
        for place in range(len(lot[0]) if left else 0):
            if not any(set(other) <= set(some) and len(parts(other, place)) == 1 and more >= left - 1
                       for other, more in paper):
                return False
    return True


def some_lots(many, most_texts, most_signs, letters="abc", seed=27):
    """As many lots, the same ones in each run."""
    chance = random.Random(seed)
    lots = []
    for _ in range(many):
        length = chance.randint(1, most_signs)
        texts = {"".join(chance.choices(letters[:chance.randint(1, len(letters))], k=length)) for _ in range(most_texts)}
        lots.append(sorted(chance.sample(sorted(texts), chance.randint(1, len(texts)))))
    return lots


LOTS = [["a"], ["abc"], ["a", "b"], ["aa", "bb"], ["ab", "ba"], list("abcdef"), FOUR, ["aab", "aba", "baa"],
        strings(3, "ab"), strings(2, "abcdef"), strings(4, "ab"), strings(5, "ab"), FORTY[:12]]
LOTS += some_lots(120, 10, 5) + some_lots(20, 24, 4, "abcdef", 28)


class PlanTest(unittest.TestCase):
    def test_by_hand(self):
        self.assertEqual(told(looks_needed, FOUR), 2)
        self.assertEqual(told(look_plan, FOUR), PLAN)
        self.assertEqual(told(first_places, FOUR), [0, 1])
        self.assertEqual(told(plan_looks, FOUR, PLAN), 2)
        self.assertEqual(told(looks_needed, ["a"]), 0)
        self.assertEqual(told(look_plan, ["a"]), [])
        self.assertEqual(told(first_places, ["a"]), [])
        self.assertEqual(told(plan_looks, ["a"], []), 0)
        self.assertEqual(told(looks_needed, ["ab", "ac"]), 1)
        self.assertEqual(told(look_plan, ["ab", "ac"]), [(("ab", "ac"), 1)])
        self.assertEqual(told(first_places, ["ab", "ac"]), [1])
        self.assertEqual(told(first_places, ["aab", "aba", "baa"]), [0, 1, 2])
        self.assertEqual(told(looks_needed, ["aab", "aba", "baa"]), 2)
        self.assertEqual(told(looks_needed, list("abcdef")), 1)

    def test_a_place_that_is_chosen_by_what_was_shown(self):
        # Behind an a the place 1 tells, behind a b the place 2: no places chosen ahead do with two.
        lot = ["aaa", "aba", "baa", "bab"]
        self.assertEqual(told(looks_needed, lot), 2)
        self.assertEqual(told(look_plan, lot), [(("aaa", "aba"), 1), (("aaa", "aba", "baa", "bab"), 0), (("baa", "bab"), 2)])
        self.assertEqual(told(first_places, lot), [0])
        self.assertEqual(told(fewest_places, lot), 3)
        self.assertEqual(told(place_set, lot), (0, 1, 2))

    def test_as_worked_out_plainly(self):
        for lot in LOTS:
            with self.subTest(lot=lot):
                kept = {}
                needed = plain_looks(tuple(lot), kept)
                self.assertEqual(told(looks_needed, lot), needed)
                first = [place for place in range(len(lot[0])) if len(parts(lot, place)) > 1
                         and 1 + max(plain_looks(part, kept) for part in parts(tuple(lot), place)) == needed]
                self.assertEqual(told(first_places, lot), first)
                plan = told(look_plan, lot)
                self.assertTrue(is_plan(lot, plan))
                self.assertEqual(plan, sorted(plan))
                self.assertEqual({some for some, _ in plan}, sets_of_plan(lot, plan))
                self.assertEqual(told(plan_looks, lot, plan), needed)

    def test_forty_texts(self):
        # A look shows a b for one text alone, and leaves all the others.
        lot = sorted(["a" * 24] + ["a" * at + "b" + "a" * (23 - at) for at in range(9)])
        self.assertEqual(len(plain_sets(lot)), 2 ** 9 - 1)
        self.assertEqual(told(looks_needed, lot), 9)
        self.assertEqual(told(first_places, lot), list(range(9)))
        whole = strings(2, "abcdef") + ["aa", "bb"]
        whole = sorted(text + "ab"[at % 2] * 22 for at, text in enumerate(whole[:36])) + ["ff" + "c" * 22]
        whole += ["ff" + sign * 22 for sign in "def"]
        self.assertEqual(len(whole), 40)
        self.assertEqual(told(looks_needed, whole), plain_looks(tuple(whole)))
        plan = told(look_plan, whole)
        self.assertTrue(is_plan(whole, plan))
        self.assertEqual(told(plan_looks, whole, plan), looks_needed(whole))

    def test_just_six_hundred_sets_and_more(self):
        self.assertEqual(len(plain_sets(JUST)), 600)
        self.assertEqual(len(plain_sets(MORE)), 601)
        needed = plain_looks(tuple(JUST))
        self.assertEqual(told(looks_needed, JUST), needed)
        self.assertEqual(told(plan_looks, JUST, told(look_plan, JUST)), needed)
        self.assertTrue(told(first_places, JUST))
        self.assertIsNone(told(answer_paper, JUST, needed))
        self.assertIs(told(answers_hold, JUST, needed - 1, answer_paper(JUST, needed - 1)), True)
        self.assertEqual(told(looks_for, JUST, 3), plain_looks_for(tuple(JUST), 3, {}))
        for lot in (MORE, FORTY):
            for call in ((looks_needed,), (look_plan,), (first_places,), (answer_paper, 0), (answer_paper, 24),
                         (looks_for, 0), (looks_for, 3), (looks_for, len(lot[0]) - 1)):
                with self.subTest(function=call[0].__name__):
                    with self.assertRaises(TooMany):
                        call[0](lot, *call[1:])
            self.assertIsNone(plan_looks(lot, []))
            self.assertIs(answers_hold(lot, 0, [(tuple(lot), 0)]), True)
            self.assertIs(answers_hold(lot, 1, [(tuple(lot), 1)]), False)
        # An answer that could come early does not: the sets are counted ahead of it.
        alike = [text + "a" for text in MORE]
        with self.assertRaises(TooMany):
            looks_for(alike, len(alike[0]) - 1)
        self.assertEqual(len(place_set(MORE)), fewest_places(MORE))

    def test_kinds(self):
        for function in LOOKS + (fewest_places, place_set):
            check_kinds(self, function, [FOUR], [(BadLot, bad_lots())])
        for bad in bad_lots():
            for thing in (PLAN, None, Odd()):
                with self.assertRaises(BadLot):
                    plan_looks(bad, thing)

    def test_what_is_just_a_lot(self):
        self.assertEqual(looks_needed(["a" * 24]), 0)
        self.assertEqual(looks_needed(["a" * 24, "a" * 23 + "b"]), 1)
        with self.assertRaises(TooMany):
            looks_needed(FORTY)


class PlanLooksTest(unittest.TestCase):
    def check(self, thing, expected=None, lot=FOUR):
        self.assertEqual(plan_looks(lot, thing), expected)

    def test_in_another_order(self):
        for plan in itertools.permutations(PLAN):
            self.assertEqual(told(plan_looks, FOUR, list(plan)), 2)

    def test_others_that_hold(self):
        self.check(PLAN + [(("aa", "ba"), 0)], 2)
        self.check(PLAN + [(("aa", "bc"), 1), (("aa", "bc", "ba"), 1)])
        self.check(PLAN + [(("aa", "ba", "bc"), 1)])
        self.check(PLAN + [(("aa", "ba", "bc"), 1), (("aa", "ba"), 0)], 2)
        self.check(PLAN + [(("aa", "ba", "bc"), 0)], 2)
        self.check(PLAN + [(("aa", "ba"), 1)])
        self.check([(("aa", "ba"), 0), (("ac", "bc"), 0), (tuple(FOUR), 1)], 2)

    def test_one_entry_left_out(self):
        for at in range(3):
            self.check(PLAN[:at] + PLAN[at + 1:])
        self.check([])
        for lot in LOTS:
            plan = look_plan(lot)
            for at in range(len(plan)):
                self.assertIsNone(plan_looks(lot, plan[:at] + plan[at + 1:]))

    def test_one_entry_twice(self):
        for at in range(3):
            self.check(PLAN + [PLAN[at]])
            self.check(PLAN + [(PLAN[at][0], 1 - PLAN[at][1])])
        self.check(PLAN + [(("aa", "ba"), 0), (("aa", "ba"), 0)])

    def test_a_place_that_tells_nothing(self):
        lot = ["aab", "aac", "aba"]
        self.check([(("aab", "aac"), 2), (tuple(lot), 1)], 2, lot)
        self.check([(tuple(lot), 2)], 1, lot)
        self.check([(("aab", "aac"), 1), (tuple(lot), 1)], None, lot)
        self.check([(tuple(lot), 0)], None, lot)
        self.check([(tuple(lot), 2), (("aab", "aac"), 0)], None, lot)

    def test_plans_that_take_more_looks(self):
        lot = ["aaa", "aba", "baa", "bab"]
        whole = tuple(lot)
        self.check([(whole, 1), (("aaa", "baa", "bab"), 0), (("baa", "bab"), 2)], 3, lot)
        self.check([(whole, 2), (("aaa", "aba", "baa"), 1), (("aaa", "baa"), 0)], 3, lot)

    def test_places_that_are_none(self):
        for place in NO_INTEGERS + [-1, 2, 3, -2, 10 ** 59]:
            for at in range(3):
                self.check(PLAN[:at] + [(PLAN[at][0], place)] + PLAN[at + 1:])
            self.check(PLAN + [(("aa", "ba"), place)])
        # True would tell as 1 does, and False as 0.
        self.check([(("aa", "ac"), True)], None, ["aa", "ac"])
        self.check([(("aa", "ba"), False)], None, ["aa", "ba"])
        self.check([(("aa", "ac"), 1)], 1, ["aa", "ac"])

    def test_sets_that_are_none(self):
        wrong = [(), ("aa",), ("ac", "aa"), ("aa", "aa"), ("aa", "ac", "ac"), ("aa", "ad"), ("aa", "a"), ("aa", ""),
                 ["aa", "ac"], "aaac", None, 0, True, Odd(), ("aa", Odd()), ("aa", None), ("aa", 1), ("aa", ["ac"]),
                 ("aa", ("ac",)), (b"aa", b"ac"), {"aa": 1, "ac": 1}, nested(90), (Odd(), Odd()), ("aa", "acc")]
        for some in wrong:
            self.check(PLAN + [(some, 0)])
            self.check(PLAN + [(some, 1)])
            self.check([(some, 1)] + PLAN[1:])
        self.check([(("a",), 0)], None, ["a"])
        self.check([((), 0)], None, ["a"])

    def test_any_object(self):
        entries = [(), (("aa", "ac"),), (("aa", "ac"), 1, 1), [("aa", "ac"), 1], "a1", None, 0, True, Odd(), nested(90), {}]
        for entry in entries:
            self.check(PLAN + [entry])
            self.check([entry] + PLAN)
        for thing in other_kinds() + ["", (), tuple(PLAN), dict(PLAN), nested(90), [PLAN], [[]], PLAN[0]]:
            self.check(thing)
            self.check(thing, None, ["a"])
            self.check(thing, None, ["a", "b"])

    def test_the_plans_of_all_lots(self):
        chance = random.Random(29)
        for lot in LOTS:
            plan = look_plan(lot)
            for _ in range(12 if plan else 0):
                changed = copy.copy(plan)
                at = chance.randrange(len(plan))
                changed[at] = (changed[at][0], chance.randrange(len(lot[0])))
                expected = plan_number(tuple(lot), dict(changed)) if is_plan(lot, changed) else None
                self.check(changed, expected, lot)


class AnswerTest(unittest.TestCase):
    def test_by_hand(self):
        self.assertIsNone(told(answer_paper, FOUR, 2))
        self.assertIsNone(told(answer_paper, FOUR, 24))
        self.assertEqual(told(answer_paper, FOUR, 0), [(tuple(FOUR), 0)])
        self.assertIs(told(answers_hold, FOUR, 1, told(answer_paper, FOUR, 1)), True)
        self.assertIs(told(answers_hold, FOUR, 1, PAPER), True)
        self.assertEqual([answer_paper(["a"], count) for count in range(25)], [None] * 25)
        self.assertIs(told(answers_hold, ["a"], 0, []), False)
        self.assertIs(told(answers_hold, ["a"], 0, [(("a",), 0)]), False)

    def test_for_each_number(self):
        for lot in LOTS:
            needed = plain_looks(tuple(lot))
            for count in range(min(24, needed + 2) + 1):
                with self.subTest(lot=lot, count=count):
                    paper = told(answer_paper, lot, count)
                    self.assertEqual(paper is None, count >= needed)
                    if paper is not None:
                        self.assertTrue(is_answer(lot, count, paper))
                        self.assertEqual(paper, sorted(paper))
                        self.assertIs(told(answers_hold, lot, count, paper), True)
                        for other in (count - 1, count + 1):
                            if 0 <= other <= 24:
                                self.assertIs(answers_hold(lot, other, paper), False)

    def test_one_entry_changed(self):
        for lot in LOTS[:80]:
            needed = looks_needed(lot)
            for count in range(needed):
                paper = answer_paper(lot, count)
                for at, (some, left) in enumerate(paper):
                    changes = [paper[:at] + paper[at + 1:], paper + [(some, left)], paper + [(some, left + 1)]]
                    changes += [paper[:at] + [(some, more)] + paper[at + 1:] for more in (left + 1, left - 1, 24)]
                    for changed in changes:
                        holds = is_answer(lot, count, changed) if -1 not in dict(changed).values() else False
                        self.assertIs(answers_hold(lot, count, changed), holds)

    def test_another_order_and_others_that_hold(self):
        for paper in itertools.permutations(PAPER):
            self.assertIs(told(answers_hold, FOUR, 1, list(paper)), True)
        self.assertIs(answers_hold(FOUR, 1, PAPER + [(("aa", "bc"), 0)]), True)
        # Any two texts that differ at each place: a look settles them, so no number above 0 holds.
        self.assertIs(answers_hold(FOUR, 1, PAPER + [(("aa", "bc"), 1)]), False)
        self.assertIs(answers_hold(FOUR, 1, PAPER + [(("aa", "ba", "bc"), 0)]), True)
        self.assertIs(answers_hold(FOUR, 1, PAPER + [(("aa", "ba", "bc"), 1)]), False)
        self.assertIs(answers_hold(FOUR, 1, PAPER + [(("ba", "bc"), 0), (("aa", "ba", "bc"), 1)]), True)

    def test_fewer_texts_than_all_with_one_sign(self):
        # Two of the four texts that have an a at a place are enough.
        lot = strings(3, "ab")
        paper = [(tuple(lot), 1), (("aaa", "aab"), 0), (("aaa", "aba"), 0)]
        self.assertTrue(is_answer(lot, 1, paper))
        self.assertIs(told(answers_hold, lot, 1, paper), True)
        self.assertIs(told(answers_hold, lot, 1, paper[:2]), False)
        self.assertIs(told(answers_hold, lot, 1, [paper[0], (("aab", "baa"), 0), (("aaa", "aab"), 0)]), False)
        # One that is no part of it answers nothing for it.
        self.assertIs(told(answers_hold, lot, 1, paper + [(("aab", "aba", "baa"), 1)]), False)
        more = [(("aab", "aba"), 0), (("aab", "baa"), 0), (("aba", "baa"), 0)]
        self.assertIs(told(answers_hold, lot, 1, paper + [(("aab", "aba", "baa"), 1)] + more), True)

    def test_left_that_is_none(self):
        for left in NO_INTEGERS + [-1, -10 ** 59]:
            for at in range(3):
                self.assertIs(answers_hold(FOUR, 1, PAPER[:at] + [(PAPER[at][0], left)] + PAPER[at + 1:]), False)
            self.assertIs(answers_hold(FOUR, 1, PAPER + [(("aa", "bc"), left)]), False)
            self.assertIs(answers_hold(FOUR, 0, [(tuple(FOUR), left)]), False)
        self.assertIs(answers_hold(FOUR, 1, [PAPER[0], (tuple(FOUR), True), PAPER[2]]), False)
        self.assertIs(answers_hold(FOUR, 0, [(tuple(FOUR), False)]), False)
        self.assertIs(answers_hold(FOUR, 0, [(tuple(FOUR), 0), (("aa", "ac"), 10 ** 59)]), False)

    def test_any_object(self):
        wrong = [(), ("aa",), ("ac", "aa"), ("aa", "aa"), ("aa", "ad"), ["aa", "ac"], "aaac", None, 0, Odd(), ("aa", Odd()),
                 ("aa", None), ("aa", ["ac"]), {"aa": 1, "ac": 1}, nested(90), ("", "aa"), ("a", "aa")]
        entries = [(some, 0) for some in wrong] + [(), (("aa", "ac"),), (("aa", "bc"), 0, 0), [("aa", "bc"), 0], None,
                                                   0, True, "", Odd(), nested(90)]
        for entry in entries:
            self.assertIs(answers_hold(FOUR, 1, PAPER + [entry]), False)
            self.assertIs(answers_hold(FOUR, 1, [entry] + PAPER), False)
        for thing in other_kinds() + ["", (), [], tuple(PAPER), dict(PAPER), nested(90), [PAPER], [[]], PAPER[1]]:
            self.assertIs(answers_hold(FOUR, 1, thing), False)
            self.assertIs(answers_hold(["a"], 0, thing), False)

    def test_kinds(self):
        check_kinds(self, answer_paper, [FOUR, 1], [(BadLot, bad_lots()), (BadCount, bad_counts(0, 24))])
        for thing in (PAPER, None, Odd()):
            for bad in bad_lots()[::5]:
                with self.assertRaises(BadLot):
                    answers_hold(bad, Odd(), thing)
            for bad in bad_counts(0, 24):
                with self.assertRaises(BadCount):
                    answers_hold(FOUR, bad, thing)
                # Kinds come ahead of what is too many.
                with self.assertRaises(BadCount):
                    answer_paper(MORE, bad)


class PlacesTest(unittest.TestCase):
    def test_as_worked_out_plainly(self):
        for lot in [lot for lot in LOTS if len(lot[0]) < 9]:
            with self.subTest(lot=lot):
                sets = [places for many in range(len(lot[0]) + 1) for places in
                        itertools.combinations(range(len(lot[0])), many)
                        if len({tuple(text[place] for place in places) for text in lot}) == len(lot)]
                least = min(len(places) for places in sets)
                self.assertEqual(told(fewest_places, lot), least)
                self.assertEqual(told(place_set, lot), min(places for places in sets if len(places) == least))

    def test_by_hand(self):
        self.assertEqual(told(place_set, ["abc"]), ())
        self.assertEqual(told(fewest_places, ["abc"]), 0)
        self.assertEqual(told(place_set, FOUR), (0, 1))
        self.assertEqual(told(place_set, ["aab", "abb", "acb"]), (1,))
        self.assertEqual(told(place_set, ["aaaa", "abab", "abba"]), (1, 2))

    def test_twelve_places_and_thirteen(self):
        # At so many places one text each has a b: all these places are needed.
        for many in (1, 11, 12, 13, 23):
            lot = sorted(["a" * 24] + ["a" * at + "b" + "a" * (23 - at) for at in range(many)])
            with self.subTest(many=many):
                if many > 12:
                    with self.assertRaises(TooMany):
                        fewest_places(lot)
                    with self.assertRaises(TooMany):
                        place_set(lot)
                else:
                    self.assertEqual(told(place_set, lot), tuple(range(many)))
                    self.assertEqual(told(fewest_places, lot), many)
        # Also where one place alone tells both texts.
        with self.assertRaises(TooMany):
            place_set(["a" * 13, "b" * 13])
        with self.assertRaises(TooMany):
            fewest_places(["a" * 13, "b" * 13])
        self.assertEqual(told(place_set, ["a" * 13, "b" * 12 + "a"]), (0,))
        self.assertEqual(told(place_set, ["a" * 12 + "aa", "a" * 2 + "b" * 12]), (2,))
        # The other functions ask for no such thing.
        self.assertEqual(told(looks_needed, ["a" * 13, "b" * 13]), 1)
        self.assertEqual(told(looks_for, ["a" * 13, "b" * 13], 12), 1)


class LooksForTest(unittest.TestCase):
    def test_by_hand(self):
        self.assertIsNone(told(looks_for, FOUR, 0))
        self.assertEqual(told(looks_for, ["aa", "bb"], 0), 1)
        self.assertEqual(told(looks_for, ["aa", "ab"], 0), 0)
        self.assertIsNone(told(looks_for, ["aa", "ab"], 1))
        self.assertEqual(told(looks_for, ["abc"], 1), 0)
        self.assertIsNone(told(looks_for, ["a", "b"], 0))
        self.assertEqual(told(looks_for, ["aaa", "aab", "bba"], 0), 1)
        self.assertIsNone(told(looks_for, ["aaa", "aab", "bba"], 2))
        self.assertEqual(told(looks_for, ["aaa", "abb", "bab", "bba"], 0), 2)

    def test_as_worked_out_plainly(self):
        never = 0
        for lot in LOTS:
            for place in range(len(lot[0])):
                with self.subTest(lot=lot, place=place):
                    expected = plain_looks_for(tuple(lot), place, {})
                    never += expected == 99
                    self.assertEqual(told(looks_for, lot, place), None if expected == 99 else expected)
        self.assertGreater(never, 20)

    def test_kinds(self):
        check_kinds(self, looks_for, [FOUR, 1], [(BadLot, bad_lots()), (BadPlace, NO_INTEGERS + [-1, 2, 24, 10 ** 59])])
        # A place that is none comes ahead of what is too many.
        for place in (True, None, -1, len(MORE[0])):
            with self.assertRaises(BadPlace):
                looks_for(MORE, place)


if __name__ == "__main__":
    unittest.main()
