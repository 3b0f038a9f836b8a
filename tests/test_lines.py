"""Points 10 and 11: lines, dittos, what is carved, lines as they are seen."""

import random
import unittest

from tests.plain import bad_counts, check_kinds, strings, told
from tests.things import LETTERS, Odd, SEEN, bad_strs, nested, other_kinds
from wornstones.errors import BadCount, BadLines, BadSeen, BadText
from wornstones.lines import alike_widths, carved, dittoed, least_carving, lines_known, text_of, undittoed, wrapped


def some_texts(many):
    """As many texts of 0 to 24 signs, the same ones in each run, most with signs that come again."""
    chance = random.Random(11)
    texts = ["", "a", "a" * 24, "abcdef" * 4, "ab" * 12, "f" * 23]
    for number in range(many):
        part = "".join(chance.choices(LETTERS[:chance.randint(1, 6)], k=chance.randint(1, 12)))
        text = (part * 24)[:number % 25]
        place = chance.randrange(25)
        texts.append(text[:place] + chance.choice(["", "a", "cc"]) + text[place:22])
    return texts


TEXTS = some_texts(150)


def plain_dittoed(lines):
    """What dittoed tells, sign by sign."""
    found = []
    for number, line in enumerate(lines):
        signs = list(line)
        for at in range(len(line)):
            if number > 0 and lines[number - 1][at] == line[at]:
                signs[at] = '"'
        found.append("".join(signs))
    return found


def all_lines(marks):
    """All lists of up to three strs of up to three of some signs, and the lines among them."""
    parts = [""] + [text for length in range(1, 3) for text in strings(length, marks)]
    return [[]] + [[one] for one in parts] + [[one, two] for one in parts for two in parts] + [
        [one, two, three] for one in parts for two in parts for three in parts]


class WrappedTest(unittest.TestCase):
    def test_ordinary_ones(self):
        self.assertEqual(told(wrapped, "abcde", 2), ["ab", "cd", "e"])
        self.assertEqual(told(wrapped, "abcd", 2), ["ab", "cd"])
        self.assertEqual(told(wrapped, "abc", 1), ["a", "b", "c"])
        self.assertEqual(told(wrapped, "abc", 12), ["abc"])
        self.assertEqual(told(wrapped, "abc", 3), ["abc"])

    def test_no_signs(self):
        for width in range(1, 13):
            self.assertEqual(told(wrapped, "", width), [])

    def test_each_width(self):
        for text in TEXTS:
            for width in range(1, 13):
                lines = told(wrapped, text, width)
                with self.subTest(text=text, width=width):
                    self.assertEqual("".join(lines), text)
                    self.assertEqual([len(line) for line in lines[:-1]], [width] * (len(lines) - 1) if lines else [])
                    self.assertTrue(all(1 <= len(line) <= width for line in lines))

    def test_kinds(self):
        check_kinds(self, wrapped, ["abc", 2], [(BadText, bad_strs(LETTERS)), (BadCount, bad_counts(1, 12))])


class DittosTest(unittest.TestCase):
    def test_ordinary_ones(self):
        self.assertEqual(told(dittoed, ["abc", "adc", "ad"]), ["abc", '"d"', '""'])
        self.assertEqual(told(dittoed, ["ab", "ba"]), ["ab", "ba"])
        self.assertEqual(told(dittoed, ["abc"]), ["abc"])
        self.assertEqual(told(undittoed, ["abc", '"d"', '""']), ["abc", "adc", "ad"])
        self.assertEqual(told(text_of, ["abc", "adc", "ad"]), "abcadcad")

    def test_a_column_of_like_signs(self):
        self.assertEqual(told(dittoed, ["a", "a", "a"]), ["a", '"', '"'])
        self.assertEqual(told(undittoed, ["a", '"', '"']), ["a", "a", "a"])
        self.assertEqual(told(dittoed, ["f"] * 24), ["f"] + ['"'] * 23)
        self.assertEqual(told(undittoed, ["f"] + ['"'] * 23), ["f"] * 24)

    def test_no_signs(self):
        for function in (dittoed, undittoed):
            self.assertEqual(told(function, []), [])
            given = []
            self.assertIsNot(function(given), given)
        self.assertEqual(told(text_of, []), "")

    def test_there_and_back(self):
        for text in TEXTS:
            for width in range(1, 13):
                lines = wrapped(text, width)
                with self.subTest(text=text, width=width):
                    self.assertEqual(told(text_of, lines), text)
                    marked = told(dittoed, lines)
                    self.assertEqual(marked, plain_dittoed(lines))
                    self.assertEqual(told(undittoed, marked), lines)
                    self.assertIsNot(dittoed(lines), lines)

    def test_the_list_is_new(self):
        lines = ["ab", "cd"]
        self.assertIsNot(dittoed(lines), lines)
        self.assertIsNot(undittoed(lines), lines)
        self.assertEqual(told(undittoed, lines), ["ab", "cd"])


class BadLinesTest(unittest.TestCase):
    def check(self, function, lines, place):
        with self.assertRaises(BadLines) as held:
            function(lines)
        self.assertEqual(held.exception.place, place)
        self.assertIs(type(held.exception.place), int)

    def check_all(self, lines, place):
        for function in (dittoed, undittoed, text_of):
            with self.subTest(function=function.__name__, place=place):
                self.check(function, lines, place)

    def test_no_list(self):
        for thing in other_kinds() + ["", "ab", (), ("ab",), nested(90), {0: "ab"}]:
            self.check_all(thing, -1)

    def test_the_example_of_the_document(self):
        self.check_all(["ab", "c", "d"], 2)
        self.check_all(["ab", "c", "d", None], 2)

    def test_each_way_in_which_an_entry_can_be_wrong(self):
        entries = ["", "g", "aB", "a ", "?", ".", "a.", "a\n", "-", "abc" * 3000] + other_kinds() + [
            ("ef",), ["ef"], [], (), nested(90)]
        for entry in entries:
            self.check_all([entry], 0)
            self.check_all([entry, "ab"], 0)
            self.check_all(["ef", entry], 1)
            self.check_all(["ef", "fe", "ab", entry], 3)
            self.check_all(["ef", "fe", entry, entry, "ab"], 2)

    def test_lengths(self):
        self.check_all(["abcdefabcdefa"], 0)
        self.check_all(["ab", "cde"], 1)
        self.check_all(["ab", "c", "ab"], 2)
        self.check_all(["ab", "c", "d", "ab"], 2)
        self.check_all(["ab", "cd", "e", ""], 3)
        self.check_all(["a", "bc"], 1)
        self.assertEqual(told(text_of, ["abcdefabcdef"]), "abcdefabcdef")
        self.assertEqual(told(undittoed, ["abcdefabcdef", "b"]), ["abcdefabcdef", "b"])

    def test_twenty_four_signs_in_all(self):
        lines = ["abcdefabcdef", "bcdefabcdefa"]
        self.assertEqual(told(text_of, lines), "".join(lines))
        self.check_all(lines + ["c"], 2)
        lines = ["abcde", "bcdea", "cdeab", "deabc", "eabc"]
        for function in (dittoed, undittoed):
            self.assertEqual(told(function, lines), lines)
        self.check_all(lines[:4] + ["eabcd"], 4)
        self.check_all(["a", "b"] * 12 + ["a"], 24)
        self.check_all(["a", "b"] * 200, 24)
        self.assertEqual(told(text_of, ["a", "b"] * 12), "ab" * 12)

    def test_dittos_where_they_are_not_asked(self):
        for function in (dittoed, text_of):
            self.check(function, ["ab", '"c'], 1)
            self.check(function, ['"'], 0)
            self.check(function, ["ab", "cd", '""', None], 2)

    def test_dittos_where_they_have_to_be_and_can_not_be(self):
        self.check(undittoed, ['"'], 0)
        self.check(undittoed, ['a"', "b"], 0)
        self.check(undittoed, ["ab", "ac"], 1)
        self.check(undittoed, ["ab", "cb"], 1)
        self.check(undittoed, ["ab", "cd", "c"], 2)
        self.check(undittoed, ["a", '"', "a"], 2)
        self.check(undittoed, ["ab", '"c', '"c'], 2)
        self.assertEqual(told(undittoed, ["ab", '"c', '""']), ["ab", "ac", "ac"])
        self.assertEqual(told(undittoed, ["ab", '"c', "b"]), ["ab", "ac", "b"])
        self.check(undittoed, ["ab", '"""'], 1)

    def test_all_short_lists(self):
        plain = {}
        for length in range(7):
            for text in strings(length, "ab"):
                for width in (1, 2):
                    plain[tuple(wrapped(text, width))] = True
        marked = {tuple(plain_dittoed(list(lines))): True for lines in plain}
        for lines in all_lines('ab"'):
            self.check_against(text_of, lines, plain)
            self.check_against(dittoed, lines, plain)
            self.check_against(undittoed, lines, marked)

    def check_against(self, function, lines, good):
        wrong = [place for place in range(len(lines)) if tuple(lines[:place + 1]) not in good]
        if wrong:
            self.check(function, lines, wrong[0])
        else:
            function(lines)


class CarvedTest(unittest.TestCase):
    def test_ordinary_ones(self):
        self.assertEqual(told(carved, "abcadcad", 3), 4)
        self.assertEqual(told(carved, "aaa", 1), 1)
        self.assertEqual(told(carved, "aaa", 2), 2)
        self.assertEqual(told(carved, "aaa", 3), 3)
        self.assertEqual(told(carved, "aaa", 12), 3)
        self.assertEqual(told(least_carving, "ababab"), (2, 2))
        self.assertEqual(told(alike_widths, "ababab"), [2])
        self.assertEqual(told(alike_widths, "abcabcabcabc"), [3])
        self.assertEqual(told(alike_widths, "abab" * 3), [2])
        self.assertEqual(told(alike_widths, "aabaab"), [3])

    def test_no_signs(self):
        self.assertEqual(told(carved, "", 5), 0)
        self.assertEqual(told(least_carving, ""), (0, 1))
        self.assertEqual(told(alike_widths, ""), list(range(1, 13)))

    def test_widths_above_the_number_of_signs(self):
        self.assertEqual(told(least_carving, "abc"), (3, 1))
        self.assertEqual(told(alike_widths, "abc"), list(range(1, 13)))
        self.assertEqual(told(alike_widths, "aba"), [2])
        self.assertEqual(told(least_carving, "a"), (1, 1))
        self.assertEqual(told(alike_widths, "a"), list(range(1, 13)))
        for width in range(4, 13):
            self.assertEqual(told(carved, "aab", width), 3)

    def test_no_width_above_twelve_counts(self):
        # Lines of thirteen signs would have ten dittos.
        text = "abcdefaceafdc" + "abcdefacea"
        number, width = told(least_carving, text)
        self.assertGreater(number, 13)
        self.assertLessEqual(width, 12)
        self.assertEqual(max(told(alike_widths, text)) <= 12, True)

    def test_as_worked_out_plainly(self):
        for text in TEXTS:
            numbers = [len("".join(plain_dittoed(wrapped(text, width))).replace('"', "")) for width in range(1, 13)]
            with self.subTest(text=text):
                self.assertEqual([told(carved, text, width) for width in range(1, 13)], numbers)
                self.assertEqual(told(least_carving, text), (min(numbers), numbers.index(min(numbers)) + 1))
                self.assertEqual(told(alike_widths, text),
                                 [width for width in range(1, 13) if numbers[width - 1] == min(numbers)])

    def test_kinds(self):
        check_kinds(self, carved, ["abc", 2], [(BadText, bad_strs(LETTERS)), (BadCount, bad_counts(1, 12))])
        for function in (least_carving, alike_widths):
            check_kinds(self, function, ["abc"], [(BadText, bad_strs(LETTERS))])


class LinesKnownTest(unittest.TestCase):
    def test_ordinary_ones(self):
        self.assertEqual(told(lines_known, ["abc", '"d"', '""']), "abcadcad")
        self.assertEqual(told(lines_known, ["abc"]), "abc")
        self.assertEqual(told(lines_known, ["ab", "ab"]), "abab")
        self.assertEqual(told(lines_known, ["ab", '"b']), "abab")

    def test_dittos_below_what_is_broken_off_or_gone(self):
        self.assertEqual(told(lines_known, ["?.a", '"""', '""']), "?.a?.a?.")
        self.assertEqual(told(lines_known, ["a?", '"b', '""', "?."]), "a?abab?.")
        self.assertEqual(told(lines_known, ["?", '"', "a", '"', ".", '"']), "??aa..")

    def test_no_lines(self):
        self.assertEqual(told(lines_known, []), "")

    def test_twenty_four_signs(self):
        self.assertEqual(told(lines_known, ["abcdef?." * 3]), "abcdef?." * 3)
        self.assertEqual(told(lines_known, ["a"] + ['"'] * 23), "a" * 24)
        self.assertEqual(told(lines_known, ["a" * 13, '"' * 11]), "a" * 24)
        self.assertEqual(told(lines_known, ["abcdefabcdef", '"' * 12]), "abcdef" * 4)

    def test_what_dittoed_tells(self):
        for text in TEXTS:
            for width in range(1, 13):
                self.assertEqual(told(lines_known, dittoed(wrapped(text, width))), text)
                self.assertEqual(told(lines_known, wrapped(text, width)), text)

    def test_bad_seen(self):
        entries = ["", "g", "aB", "a ", "a\n", "-", "abcde" * 5, "'"] + other_kinds() + [
            ("ab",), ["ab"], [], (), nested(90)]
        things = other_kinds() + ["", "ab", (), ("ab",), nested(90), Odd()]
        for entry in entries:
            things += [[entry], [entry, "ab"], ["ab", entry], ["ab", "cd", entry], ["ab", entry, "cd"]]
        things += [['"'], ['a"'], ['"', "a"], ['a"', "bc"], ["a" * 25], ["a" * 24, "b"], ["a"] * 25, ["a"] * 1000,
                   ["a" * 12, "b" * 12, "c"], ["abcde"] * 5, ["ab", "c", "de"], ["ab", "c", "d"], ["ab", "cde"],
                   ["a", "bc"], ["ab", "cd", "e", "f"], ["abc", "de", "fab"], ["ab", '"', '"']]
        for number, thing in enumerate(things):
            with self.subTest(number=number):
                with self.assertRaises(BadSeen):
                    lines_known(thing)

    def test_each_seen_sign(self):
        for sign in SEEN:
            self.assertEqual(told(lines_known, [sign, '"', sign]), sign * 3)


if __name__ == "__main__":
    unittest.main()
