"""Points 3 and 29 to 31: years of wear, and somebody who cuts signs anew."""

import itertools
import random
import unittest

from tests.plain import ALL, ASTRAY, BOOK, LINE, ONLY_EMPTY
from tests.plain import bad_books, bad_counts, check_kinds, cycle, plain_sum, plain_texts, some_books, told
from tests.things import CHAIN, EXAMPLE, LETTERS, Odd, RING, bad_strs, bad_wears, nested, other_kinds, plain_steps
from tests.things import some_wears
from tests.wrong import NO_INTEGERS
from wornstones.doubts import doubt
from wornstones.errors import BadBook, BadCount, BadNumber, BadText, BadWear, NotOf, TooMany
from wornstones.years import guard_holds, guard_way, guarded_years, wear_holds, wear_way, years_sure


def line_of(*texts):
    """A book of some texts of one length, each with rooms of its own behind its first sign, the last room in common."""
    length = len(texts[0])
    doors = {}
    rooms = 1
    for text in texts:
        room = 0
        for place, sign in enumerate(text):
            if (room, sign) not in doors:
                doors[(room, sign)] = 99 if place == length - 1 else rooms
                rooms += place < length - 1
            room = doors[(room, sign)]
    found = tuple(sorted((room, sign, rooms if behind == 99 else behind) for (room, sign), behind in doors.items()))
    return (rooms + 1, found, (rooms,))


# What stands alone at first, comes to look alike with two steps at each of both places.
PAIR = line_of("ab", "ca")
SLOW = (("a", "b"), ("b", "d"), ("c", "e"), ("e", "d"))


class Game:
    """All standings of a guarded text, told in plain ways."""

    def __init__(self, book, wear, text, speed, cuts):
        self.text = text
        self.wear = wear
        self.speed = speed
        self.others = [other for other in plain_texts(book, len(text)) if other != text]
        self.steps = plain_steps(wear)
        self.choices = [places for many in range(cuts + 1) for places in itertools.combinations(range(len(text)), many)]
        self.kept = {}
        self.years = {}

    def year(self, row):
        """The rows to which a row can come in a year."""
        if row not in self.years:
            found = {row}
            for _ in range(self.speed):
                found |= {ahead[:at] + worn + ahead[at + 1:] for ahead in found for at in range(len(row))
                          for one, worn in self.wear if ahead[at] == one}
            self.years[row] = sorted(found)
        return self.years[row]

    def rows(self):
        """All rows to which the text can come."""
        found = {self.text}
        wave = [self.text]
        while wave:
            wave = list({after for row in wave for after in self.year(row)} - found)
            found |= set(wave)
        return sorted(found)

    def is_sure(self, row):
        """Whether the text is the only reading of a row to which it can come."""
        return all(plain_sum(self.steps, other, row) is None for other in self.others)

    def cut(self, row, places):
        return "".join(self.text[at] if at in places else worn for at, worn in enumerate(row))

    def holds(self, row, looks):
        """Whether so many looks can be held from a row at the beginning of a year on."""
        if looks == 0:
            return True
        if (row, looks) not in self.kept:
            self.kept[(row, looks)] = all(
                self.is_sure(after) and any(self.holds(self.cut(after, places), looks - 1) for places in self.choices)
                for after in self.year(row))
        return self.kept[(row, looks)]

    def number(self):
        """What guarded_years tells: there are no more numbers than sure rows."""
        most = len([row for row in self.rows() if self.is_sure(row)]) + 1
        for looks in range(1, most + 1):
            if not self.holds(self.text, looks):
                return looks - 1
        return None

    def is_guard_way(self, way):
        """Whether a list of tuples (row, places) is a guard way, by what point 31 says, one by one."""
        places_at = dict(way)
        rows = self.rows()
        if len(places_at) < len(way) or any(row not in places_at for row in self.year(self.text)):
            return False
        for row, places in way:
            if row not in rows or not self.is_sure(row) or places not in self.choices:
                return False
            if any(after not in places_at for after in self.year(self.cut(row, places))):
                return False
        return True

    def is_wear_way(self, number, way):
        """Whether a list of tuples (row, left, after) is a wear way, likewise."""
        afters = {(row, left): after for row, left, after in way}
        rows = self.rows()
        if len(afters) < len(way) or (self.text, number) not in afters:
            return False
        for (row, left), after in afters.items():
            if row not in rows or after not in self.year(row) or not 1 <= left <= number:
                return False
            if self.is_sure(after) and (left == 1 or any((self.cut(after, places), left - 1) not in afters
                                                         for places in self.choices)):
                return False
        return True


def some_cases(many):
    """As many books, wears, texts, speeds and numbers of cuts, the same ones in each run."""
    chance = random.Random(30)
    books = [BOOK, LINE, ASTRAY, ALL, PAIR, line_of("aa", "bb"), line_of("aaa", "bbb"), line_of("ab", "ba"),
             line_of("aab", "abc", "bbb"), cycle(3, (0,))] + some_books(12, letters="abc")
    wears = [(), EXAMPLE, SLOW, RING, CHAIN[:3], CHAIN[:4], (("a", "b"), ("b", "c"), ("b", "d"), ("c", "d"))]
    wears += [wear[:7] for wear in some_wears(12)]
    cases = []
    while len(cases) < many:
        book, wear = chance.choice(books), chance.choice(wears)
        texts = plain_texts(book, chance.choice([0, 1, 2, 2, 2, 3, 3]))
        if texts:
            case = (book, wear, chance.choice(texts), chance.randint(1, 4), chance.randint(0, 4))
            if len(Game(*case).rows()) < 130:
                cases.append(case)
    return cases


# Books in which the wear wins late, or needs more than one place.
HARD = [(line_of("aaa", "bbb"), (("a", "c"), ("b", "c")), "aaa", speed, cuts) for speed in range(1, 4) for cuts in range(3)]
HARD += [(line_of("aaaa", "bbbb"), (("a", "d"), ("b", "c"), ("c", "d"), ("d", "e")), "aaaa", 1, cuts) for cuts in (0, 1)]
HARD += [(line_of("aa", "ff"), CHAIN[:5], "aa", 1, cuts) for cuts in range(3)]
HARD += [(line_of("aa", "ff"), CHAIN[:5], "aa", 2, cuts) for cuts in range(3)]
HARD += [(PAIR, SLOW, "ab", speed, cuts) for speed in range(1, 5) for cuts in range(3)]
HARD += [(line_of("aaa", "fff"), (("a", "c"), ("c", "d"), ("d", "f")), "aaa", speed, cuts)
         for speed in range(1, 5) for cuts in range(4)]
HARD += [(line_of("aaaa", "ffff"), (("a", "d"), ("d", "f")), "aaaa", speed, cuts) for speed in (1, 2, 3) for cuts in (1, 2)]
CASES = HARD + some_cases(170)


class YearsSureTest(unittest.TestCase):
    def test_by_hand(self):
        self.assertEqual(told(years_sure, BOOK, EXAMPLE, "aa", 1), 0)
        self.assertIsNone(told(years_sure, LINE, EXAMPLE, "dab", 4))
        self.assertIsNone(told(years_sure, BOOK, EXAMPLE, "", 4))
        self.assertIsNone(told(years_sure, BOOK, (), "aa", 1))
        book = line_of("aaa", "fff")
        self.assertEqual(doubt(book, CHAIN, "aaa"), 15)
        self.assertEqual([told(years_sure, book, CHAIN, "aaa", speed) for speed in (1, 2, 3, 4)], [14, 7, 4, 3])
        self.assertEqual(doubt(book, CHAIN, "fff"), 0)
        self.assertEqual([told(years_sure, book, CHAIN, "fff", speed) for speed in (1, 2, 3, 4)], [0] * 4)

    def test_by_doubt(self):
        for book, wear, text, _, _ in CASES:
            least = doubt(book, wear, text)
            for speed in range(1, 5):
                # The years at whose ends so many steps have not been taken yet.
                years = None if least is None else len([year for year in range(1, 500) if year * speed < least])
                self.assertEqual(told(years_sure, book, wear, text, speed), years)

    def test_twenty_four_signs(self):
        book = line_of("a" * 6, "f" * 6)
        self.assertEqual(told(years_sure, book, CHAIN, "a" * 6, 1), 29)
        self.assertEqual(told(years_sure, cycle(12, (0,)), CHAIN, "a" * 24, 1), None)
        self.assertEqual(told(years_sure, ALL, CHAIN, "a" * 24, 1), 0)
        self.assertEqual(told(years_sure, ALL, (("b", "c"),), "a" * 24, 1), None)

    def test_kinds(self):
        check_kinds(self, years_sure, [BOOK, EXAMPLE, "aa", 1],
                    [(BadBook, bad_books()), (BadWear, bad_wears()), (BadText, bad_strs(LETTERS)),
                     (BadCount, bad_counts(1, 4))])
        for text in ("a", "cb", "aab", "c", "a" * 23):
            with self.assertRaises(NotOf):
                years_sure(BOOK, EXAMPLE, text, 1)
            for speed in bad_counts(1, 4):
                with self.assertRaises(BadCount):
                    years_sure(BOOK, EXAMPLE, text, speed)


class GuardedTest(unittest.TestCase):
    def test_by_hand(self):
        # Both places have to wear; each year one step is taken, and one cut anew takes it back.
        book = line_of("aa", "bb")
        wear = (("a", "c"), ("b", "c"))
        self.assertEqual([told(guarded_years, book, wear, "aa", 1, cuts) for cuts in range(5)], [1] + [None] * 4)
        self.assertEqual([told(guarded_years, book, wear, "aa", 2, cuts) for cuts in range(5)], [0] * 5)
        book = line_of("aaa", "bbb")
        self.assertEqual([told(guarded_years, book, wear, "aaa", 2, cuts) for cuts in range(4)], [1, 1, None, None])
        self.assertEqual(told(guarded_years, book, wear, "aaa", 3, 4), 0)
        self.assertEqual(told(guarded_years, BOOK, EXAMPLE, "aa", 1, 4), 0)
        self.assertEqual(told(guarded_years, BOOK, EXAMPLE, "", 4, 0), None)
        self.assertEqual(told(guarded_years, ONLY_EMPTY, CHAIN, "", 1, 4), None)

    def test_a_place_that_is_better_not_cut(self):
        # A b that has come from a comes to nothing; cut anew it comes to c, as the other text does.
        book = line_of("a", "d")
        wear = (("a", "b"), ("a", "c"), ("d", "c"))
        self.assertEqual(told(guarded_years, book, wear, "a", 1, 1), 0)
        book = line_of("aa", "dd")
        self.assertEqual(told(guarded_years, book, wear, "aa", 1, 1), None)
        way = dict(told(guard_way, book, wear, "aa", 1, 1))
        self.assertIn(way["ab"], [(), (0,)])

    def test_as_worked_out_plainly(self):
        for case in CASES:
            with self.subTest(case=case):
                self.assertEqual(told(guarded_years, *case), Game(*case).number())

    def test_the_cases_are_of_many_kinds(self):
        numbers = [guarded_years(*case) for case in CASES]
        self.assertGreater(len([1 for number in numbers if number is None]), 20)
        self.assertGreater(len([1 for number in numbers if number == 0]), 20)
        self.assertGreater(len([1 for number in numbers if number]), 10)
        self.assertGreater(max(number for number in numbers if number), 5)
        guarded = [case for case in CASES if years_sure(*case[:4]) not in (None, guarded_years(*case))]
        self.assertGreater(len(guarded), 10)

    def test_without_cuts(self):
        for book, wear, text, speed, _ in CASES:
            self.assertEqual(guarded_years(book, wear, text, speed, 0), years_sure(book, wear, text, speed))

    def test_five_signs_and_six(self):
        for text in ("aaaaa", "bcabc"):
            self.assertEqual(told(guarded_years, ALL, (), text, 4, 4), None)
        for text in ("aaaaaa", "a" * 24):
            for function, rest in ((guarded_years, ()), (guard_way, ()), (guard_holds, ([],)), (wear_way, (1,)),
                                   (wear_holds, (1, []))):
                with self.assertRaises(NotOf):
                    function(ALL, (), text, 4, 4, *rest)
                with self.assertRaises(NotOf):
                    function(LINE, (), text[:2], 4, 4, *rest)
            self.assertIsNone(years_sure(ALL, (), text, 4))

    def test_just_three_hundred_rows_and_more(self):
        # By a chain a comes to as many worn signs as there are behind it; of the last book 42 rows have two readings.
        chain = CHAIN[:4]
        for book, wear, text, many in ((line_of("aabc"), chain, "aabc", 300), (line_of("aabcf"), chain, "aabcf", 300),
                                       (line_of("aaa"), CHAIN, "aaa", 343), (line_of("aaab"), chain, "aaab", 500),
                                       (line_of("aaa", "aef"), CHAIN, "aaa", 301)):
            game = Game(book, wear, text, 4, 1)
            self.assertEqual(len([row for row in game.rows() if game.is_sure(row)]), many)
            for function, rest in ((guarded_years, ()), (guard_way, ()), (guard_holds, ([],)), (wear_way, (1,)),
                                   (wear_holds, (1, []))):
                for speed, cuts in ((1, 0), (4, 4)):
                    with self.subTest(function=function.__name__, many=many):
                        if many > 300:
                            with self.assertRaises(TooMany):
                                function(book, wear, text, speed, cuts, *rest)
                        else:
                            function(book, wear, text, speed, cuts, *rest)
            years_sure(book, wear, text, 1)
        self.assertIsNone(told(guarded_years, line_of("aabc"), chain, "aabc", 4, 0))
        self.assertIs(guard_holds(line_of("aabc"), chain, "aabc", 4, 0, guard_way(line_of("aabc"), chain, "aabc", 4, 0)), True)
        self.assertEqual(years_sure(line_of("aaa", "aef"), CHAIN, "aaa", 1), 8)

    def test_many_rows_that_are_not_sure(self):
        # They are not counted: of this text no row at all is sure.
        self.assertEqual(told(guarded_years, ALL, CHAIN, "fffff", 4, 4), 0)
        self.assertEqual(told(guarded_years, ALL, CHAIN, "aaaaa", 1, 4), 0)

    def test_kinds(self):
        bad = [(BadBook, bad_books()), (BadWear, bad_wears()), (BadText, bad_strs(LETTERS)),
               (BadCount, bad_counts(1, 4)), (BadCount, bad_counts(0, 4))]
        good = [BOOK, EXAMPLE, "aa", 1, 1]
        for function in (guarded_years, guard_way):
            check_kinds(self, function, good, bad)
        numbers = NO_INTEGERS + [0, -1, 21, 10 ** 59, -10 ** 59] + other_kinds()[:3]
        check_kinds(self, wear_way, good + [3], bad + [(BadNumber, numbers)])
        for thing in ([], None, Odd()):
            for place, (error, things) in enumerate(bad + [(BadNumber, numbers)]):
                for one in things[::9] + things[-3:]:
                    given = good + [3]
                    given[place] = one
                    with self.assertRaises(error):
                        wear_holds(*given, thing)
                    if place < 5:
                        with self.assertRaises(error):
                            guard_holds(*given[:5], thing)

    def test_errors_that_hang_on_the_book_come_later(self):
        for function, rest in ((guarded_years, ()), (guard_way, ()), (guard_holds, (Odd(),)), (wear_way, (1,)),
                               (wear_holds, (1, Odd()))):
            with self.assertRaises(BadCount):
                function(BOOK, EXAMPLE, "a", 0, 1, *rest)
            with self.assertRaises(BadCount):
                function(BOOK, EXAMPLE, "a", 1, True, *rest)
            with self.assertRaises(NotOf):
                function(BOOK, EXAMPLE, "a", 1, 1, *rest)
            with self.assertRaises(NotOf):
                function(line_of("aaa"), CHAIN, "aab", 1, 1, *rest)
            with self.assertRaises(TooMany):
                function(line_of("aaa"), CHAIN, "aaa", 1, 1, *rest)
        for function, rest in ((wear_way, ()), (wear_holds, (Odd(),))):
            for number in (0, 21, True, None, Odd()):
                with self.assertRaises(BadNumber):
                    function(BOOK, EXAMPLE, "a", 1, 1, number, *rest)
                with self.assertRaises(BadNumber):
                    function(line_of("aaa"), CHAIN, "aaa", 1, 1, number, *rest)


class GuardWayTest(unittest.TestCase):
    def test_what_is_told_holds(self):
        ways = 0
        for case in CASES:
            with self.subTest(case=case):
                way = told(guard_way, *case)
                game = Game(*case)
                self.assertEqual(way is None, game.number() is not None)
                if way is not None:
                    ways += 1
                    self.assertTrue(game.is_guard_way(way))
                    self.assertEqual(way, sorted(way))
                    self.assertIs(told(guard_holds, *case, way), True)
                    self.assertIs(told(guard_holds, *case, way[::-1]), True)
                    self.assertIs(guard_holds(*case, way + [way[0]]), False)
                self.assertIs(guard_holds(*case, []), False)
        self.assertGreater(ways, 20)

    def test_entries_changed(self):
        chance = random.Random(31)
        both = set()
        for case in CASES:
            way = guard_way(*case)
            game = Game(*case)
            rows = game.rows()
            for _ in range(6 if way else 0):
                at = chance.randrange(len(way))
                places = tuple(sorted(chance.sample(range(len(case[2])), chance.randint(0, len(case[2])))))
                for changed in (way[:at] + way[at + 1:], way[:at] + [(way[at][0], places)] + way[at + 1:],
                                way + [(chance.choice(rows), places)]):
                    holds = game.is_guard_way(changed)
                    both.add(holds)
                    self.assertIs(guard_holds(*case, changed), holds)
        self.assertEqual(both, {True, False})

    def test_by_hand(self):
        case = (line_of("aa", "bb"), (("a", "c"), ("b", "c")), "aa", 1, 1)
        way = [("aa", ()), ("ac", (1,)), ("ca", (0,))]
        self.assertEqual(guard_way(*case), way)
        self.assertIs(told(guard_holds, *case, way), True)
        self.assertIs(guard_holds(*case, [("aa", (0,)), ("ac", (1,)), ("ca", (0,))]), True)
        self.assertIs(guard_holds(*case, [("aa", ()), ("ac", ()), ("ca", (0,))]), False)
        self.assertIs(guard_holds(*case, [("aa", ()), ("ac", (0,)), ("ca", (0,))]), False)
        self.assertIs(guard_holds(*case, way[:2]), False)
        self.assertIs(guard_holds(*case, way + [("cc", (0,))]), False)
        self.assertIs(guard_holds(*case, way + [("ab", (1,))]), False)
        # One place more than are cut in a year, one that is none, one twice, and not ascending.
        for places in ((0, 1), (1, 1), (0, 0), (2,), (-1,), (1, 0), [1], 1, "1", None, (True,), (False,), (None,), ("1",),
                       (Odd(),), Odd(), ((1,),), {1: 1}, (10 ** 59,), nested(90)):
            self.assertIs(guard_holds(*case, [("aa", ()), ("ac", places), ("ca", (0,))]), False)
            # The text stays as it is, whatever is cut anew.
            self.assertIs(guard_holds(*case, [("aa", places), ("ac", (1,)), ("ca", (0,))]), False)
        self.assertIs(guard_holds(*case, [("aa", (1,)), ("ac", (1,)), ("ca", (0,))]), True)
        more = case[:4] + (2,)
        self.assertIs(guard_holds(*more, [("aa", ()), ("ac", (0, 1)), ("ca", (0,))]), True)
        self.assertIs(guard_holds(*more, [("aa", ()), ("ac", (1, 0)), ("ca", (0,))]), False)
        self.assertIs(guard_holds(*more, [("aa", ()), ("ac", (1, 1)), ("ca", (0,))]), False)

    def test_others_that_hold(self):
        # The row "eb" comes by nothing, if the d is cut anew.
        case = (line_of("ab", "cb"), (("a", "d"), ("c", "."), ("d", "e")), "ab", 1, 1)
        self.assertIs(guard_holds(*case, told(guard_way, *case)), True)
        self.assertIs(guard_holds(*case, [("ab", ()), ("db", (0,))]), True)
        self.assertIs(guard_holds(*case, [("ab", ()), ("db", (0,)), ("eb", ())]), True)
        self.assertIs(guard_holds(*case, [("ab", ()), ("db", (0,)), ("eb", (0,))]), True)
        self.assertIs(guard_holds(*case, [("ab", ()), ("db", ())]), False)
        self.assertIs(guard_holds(*case, [("ab", ()), ("db", ()), ("eb", ())]), True)

    def test_no_way_of_a_text_that_is_not_sure(self):
        self.assertIsNone(told(guard_way, BOOK, EXAMPLE, "aa", 1, 4))
        for thing in ([], [("aa", ())], [("aa", (0,)), ("a.", ())]):
            self.assertIs(told(guard_holds, BOOK, EXAMPLE, "aa", 1, 4, thing), False)
        self.assertEqual(told(guard_way, ONLY_EMPTY, CHAIN, "", 4, 4), [("", ())])
        self.assertIs(told(guard_holds, ONLY_EMPTY, CHAIN, "", 4, 4, [("", ())]), True)
        self.assertIs(told(guard_holds, ONLY_EMPTY, CHAIN, "", 4, 4, [("", (0,))]), False)

    def test_any_object(self):
        case = (line_of("aa", "bb"), (("a", "c"), ("b", "c")), "aa", 1, 1)
        way = [("aa", ()), ("ac", (1,)), ("ca", (0,))]
        rows = ["a", "aaa", "", "a?", "??", "bb", "dd", "aA", None, 0, True, Odd(), ("aa",), ["aa"], b"aa", nested(90)]
        for entry in [(row, ()) for row in rows] + [(), ("aa",), ("aa", (), ()), ["ac", (1,)], "aa", None, 0, Odd(), {}]:
            self.assertIs(guard_holds(*case, way + [entry]), False)
            self.assertIs(guard_holds(*case, [entry] + way), False)
            self.assertIs(guard_holds(*case, [entry] + way[1:]), False)
        for thing in other_kinds() + ["", (), tuple(way), dict(way), [way], [[]], nested(90)]:
            self.assertIs(guard_holds(*case, thing), False)


class WearWayTest(unittest.TestCase):
    def test_what_is_told_holds(self):
        ways = 0
        for case in CASES:
            game = Game(*case)
            years = game.number()
            for number in (1, 2, 3, 7, 20):
                with self.subTest(case=case, number=number):
                    way = told(wear_way, *case, number)
                    self.assertEqual(way is None, years is None or years >= number)
                    if way is not None:
                        ways += 1
                        self.assertTrue(game.is_wear_way(number, way))
                        self.assertEqual(way, sorted(way))
                        self.assertIs(told(wear_holds, *case, number, way), True)
                        self.assertIs(told(wear_holds, *case, number, way[::-1]), True)
                        self.assertIs(wear_holds(*case, number, way + [way[0]]), False)
                        for other in {1, 2, 19, 20, number - 1, number + 1} & set(range(1, 21)) - {number}:
                            self.assertIs(wear_holds(*case, other, way), game.is_wear_way(other, way))
                    self.assertIs(wear_holds(*case, number, []), False)
        self.assertGreater(ways, 60)

    def test_entries_changed(self):
        chance = random.Random(32)
        both = set()
        for case in CASES:
            game = Game(*case)
            rows = game.rows()
            for number in (1, 3):
                way = wear_way(*case, number)
                for _ in range(4 if way else 0):
                    at = chance.randrange(len(way))
                    row, left, after = way[at]
                    for changed in (way[:at] + way[at + 1:], way[:at] + [(row, left, chance.choice(rows))] + way[at + 1:],
                                    way[:at] + [(row, left + 1, after)] + way[at + 1:],
                                    way[:at] + [(row, left - 1, after)] + way[at + 1:],
                                    way + [(chance.choice(rows), chance.randint(1, number), chance.choice(rows))]):
                        holds = game.is_wear_way(number, changed)
                        both.add(holds)
                        self.assertIs(wear_holds(*case, number, changed), holds)
        self.assertEqual(both, {True, False})

    def test_by_hand(self):
        case = (line_of("aa", "bb"), (("a", "c"), ("b", "c")), "aa", 1, 0)
        self.assertEqual(guarded_years(*case), 1)
        self.assertIsNone(told(wear_way, *case, 1))
        self.assertEqual(told(wear_way, *case, 2), [("aa", 2, "ac"), ("ac", 1, "cc")])
        way = [("aa", 2, "ca"), ("ca", 1, "cc")]
        self.assertIs(told(wear_holds, *case, 2, way), True)
        self.assertIs(wear_holds(*case, 2, [("aa", 2, "ca"), ("ac", 1, "cc")]), False)
        self.assertIs(wear_holds(*case, 2, [("aa", 2, "ca"), ("ca", 1, "ca")]), False)
        self.assertIs(wear_holds(*case, 2, [("aa", 2, "cc"), ("ca", 1, "cc")]), False)
        self.assertIs(wear_holds(*case, 2, way + [("cc", 1, "cc"), ("ac", 2, "cc"), ("cc", 2, "cc")]), True)
        self.assertIs(wear_holds(*case, 2, way + [("aa", 1, "aa")]), False)
        self.assertIs(wear_holds(*case, 2, way + [("cc", 3, "cc")]), False)
        self.assertIs(wear_holds(*case, 3, way + [("aa", 3, "aa")]), True)
        self.assertIs(wear_holds(*case, 3, way), False)
        # With one cut the row behind each set of places has to stand there, the empty one as well.
        case = case[:4] + (1,)
        self.assertIs(wear_holds(*case, 2, way), False)
        faster = (case[0], case[1], "aa", 2, 1)
        self.assertEqual(told(wear_way, *faster, 1), [("aa", 1, "cc")])
        self.assertIs(wear_holds(*faster, 2, [("aa", 2, "ca"), ("ca", 1, "cc"), ("aa", 1, "cc")]), True)
        self.assertIs(wear_holds(*faster, 2, [("aa", 2, "ca"), ("ca", 1, "cc")]), False)
        self.assertIs(wear_holds(*faster, 2, [("aa", 2, "ca"), ("aa", 1, "cc")]), False)

    def test_a_text_that_is_not_sure(self):
        for number in (1, 20):
            way = told(wear_way, BOOK, EXAMPLE, "aa", 1, 4, number)
            self.assertEqual([(row, left) for row, left, _ in way], [("aa", number)])
            self.assertIs(told(wear_holds, BOOK, EXAMPLE, "aa", 1, 4, number, way), True)
            self.assertIs(told(wear_holds, BOOK, EXAMPLE, "aa", 1, 4, number, [("aa", number, "a.")]), True)
            self.assertIs(told(wear_holds, BOOK, EXAMPLE, "aa", 1, 4, number, [("aa", number, "..")]), False)
        self.assertIsNone(told(wear_way, ONLY_EMPTY, CHAIN, "", 4, 0, 20))
        self.assertIs(told(wear_holds, ONLY_EMPTY, CHAIN, "", 4, 0, 1, [("", 1, "")]), False)

    def test_any_object(self):
        case = (line_of("aa", "bb"), (("a", "c"), ("b", "c")), "aa", 1, 0)
        way = [("aa", 2, "ca"), ("ca", 1, "cc")]
        rows = ["a", "aaa", "", "a?", "c?", "??", "bb", "dd", "aA", None, 0, True, Odd(), ("aa",), ["aa"], b"aa", nested(90)]
        entries = [(row, 1, "cc") for row in rows] + [("cc", 1, row) for row in rows] + [(row, 1, row) for row in rows]
        entries += [("cc", left, "cc") for left in NO_INTEGERS + [0, -1, 3, 20, 10 ** 59]]
        entries += [(), ("cc",), ("cc", 1), ("cc", 1, "cc", "cc"), ["cc", 1, "cc"], "cc", None, 0, Odd(), {}, nested(90)]
        self.assertIs(wear_holds(*case, 2, way + [("cc", 1, "cc")]), True)
        for entry in entries:
            self.assertIs(wear_holds(*case, 2, way + [entry]), False)
            self.assertIs(wear_holds(*case, 2, [entry] + way), False)
        for left in (True, Odd(), 1j):
            self.assertIs(wear_holds(*case, 2, [way[0], ("ca", left, "cc")]), False)
        for thing in other_kinds() + ["", (), tuple(way), [way], [[]], nested(90), {("aa", 2): "ca"}]:
            self.assertIs(wear_holds(*case, 2, thing), False)


if __name__ == "__main__":
    unittest.main()
