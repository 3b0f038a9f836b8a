"""Objects that are no stones, pieces, copies, lots .., most of them with one thing wrong."""

from tests.things import Odd, SEEN, bad_strs, nested, other_kinds

# What stands for no integer from 0 on, wherever one is asked.
NO_INTEGERS = [True, False, None, "1", "", (1,), [1], b"1", 1j, Odd(), {}, nested(90)]


def no_rows():
    """Objects that are no row, some of them of a good length."""
    return bad_strs(SEEN)


def bad_stones():
    """Objects that are no stones."""
    lines = ("ab?", ".c")
    told = [(lines, number, 5) for number in NO_INTEGERS + [0, -1, 2, 6, 9, 10 ** 59]]
    told += [(lines, 3, number) for number in NO_INTEGERS + [0, -1, 2, 9, 10, 10 ** 59]]
    told += [(("a",), True, 2), (("a",), 1, True), (("a",), True, True), (("a",), 0, 0), (("a",), 0, 1), (("a",), 9, 9)]
    told += [((), 3, 5), ((), 1, 1), (("a",) * 6, 1, 1), (("a",) * 7, 3, 5), (("",), 1, 1), (("", "ab"), 3, 5),
             (("ab", ""), 3, 5), (("a" * 9,), 8, 8), (("a" * 9, "a"), 9, 9), (("a", "abcdefabc"), 8, 8)]
    told += [((row,), 3, 5) for row in no_rows()] + [(("ab", row), 3, 5) for row in no_rows()]
    told += [((row, "ab"), 3, 5) for row in no_rows()]
    told += [(("abcd",), 3, 5), (("ab", "abcd"), 3, 5), (("abcd", "ab"), 3, 4), (("????", "a"), 3, 4), (lines, 4, 3),
             (lines, 8, 3), (("a", "bg", "c"), 3, 5), (("a", "b ", "c"), 3, 5), (("a", "b\n"), 3, 5)]
    told += [(list(lines), 3, 5), [lines, 3, 5], ((list(lines),), 3, 5), ((lines,), 3, 5), (["a"], 1, 1), [], (), "",
             (lines,), (lines, 3), (lines, 3, 5, 5), (3, 5, lines), ("ab", 3, 5), ("a", 1, 1), (Odd(), 3, 5),
             (None, 3, 5), ({"ab": "a"}, 3, 5), nested(90), (nested(90), 3, 5), ((nested(90),), 3, 5)]
    return told + other_kinds()


def bad_sizes():
    """Objects that are no sizes of a page."""
    told = [(number, 3) for number in NO_INTEGERS + [0, -1, 5, 10 ** 59]]
    told += [(2, number) for number in NO_INTEGERS + [0, -1, 7, 10 ** 59]]
    told += [(), (2,), (2, 3, 1), [2, 3], "23", "", ((2, 3),), [], (6, 4), (4.0, 6), nested(90)]
    return told + other_kinds()


def bad_pieces():
    """Objects that are no pieces."""
    good = ("ab", "?.")
    pieces = [(), ("",), ("", ""), ("ab", "c"), ("a", "bc"), ("ab", ""), ("", "a"), ("ab", "cd", "e"), ("a",) * 4,
              ("abcdefa",), ("abcdef", "abcdefa"), ["ab"], "ab", "", None, 0, True, Odd(), [], {}, (("ab",),), nested(90)]
    pieces += [(row,) for row in no_rows()] + [("ab", row) for row in no_rows()[::3]]
    told = [(piece,) for piece in pieces] + [(good, piece) for piece in pieces] + [(piece, good) for piece in pieces]
    told += [(), (good,) * 4, (good,) * 5, [good], [], "ab", "", good, ("a",), (good, good, good, ("a",)), nested(90)]
    return told + other_kinds()


def bad_parents():
    """Objects that are no parents."""
    told = [(number,) for number in NO_INTEGERS + [-1, 1, 2, 10 ** 59]]
    told += [(0, number) for number in NO_INTEGERS + [-1, 2, 3]] + [(0, 0, number) for number in NO_INTEGERS + [-1, 3]]
    told += [(True, 0), (1, 0), (0, 0, 0, 0), (0, 1, 2, 3), (0, 1, 2, 0), [0], [], "0", "", (None, 0), ((0,),), nested(90)]
    return told + other_kinds()


def bad_columns():
    """Objects that are no columns."""
    told = [("a",), ["a"], (), [], "", "abcde", "?????", "a" * 5, "g", "ag", "ga", "A", " ", "a ", "\n", "a\n", "a\nb",
            "ab-", '"', "a1", "abcd" * 6, nested(90)]
    return told + other_kinds()


def bad_rows():
    """Objects that are no rows of stones."""
    told = [(row,) for row in no_rows()] + [("ab", row) for row in no_rows()] + [(row, "ab") for row in no_rows()[::3]]
    told += [(), ("a",) * 5, ("",) * 5, ("a", ""), ("", "a"), ("ab", "a"), ("ab", "ab", "abc"), ["a"], ["a", "b"], [],
             "ab", "", (("a",),), (["a"],), ("a" * 25,), ("a" * 24, "a" * 25), nested(90)]
    return told + other_kinds()


def bad_lots():
    """Objects that are no lots."""
    texts = ["aa", "ab", "ba"]
    words = [f"{one}{two}{three}" for one in "abcdef" for two in "abcdef" for three in "abcdef"]
    told = [[], [""], ["", "a"], ["a", "ab"], ["ab", "b"], ["ab", "aa"], ["aa", "aa"], ["aa", "ab", "ab"], words[:41],
            words, ["a" * 25], ["aa", "abc"], ["a", "bb", "c"], ["b", "a"], ["aa", "ac", "ab"], ["", ""]]
    told += [[text] for text in bad_strs("abcdef")] + [texts + [text] for text in bad_strs("abcdef")]
    told += [[text] + texts for text in bad_strs("abcdef")[::3]]
    told += [["a."], ["a?"], [["aa"]], [("aa",)], [texts], tuple(texts), (), "aa", "", {"aa": 1}, (texts,), nested(90)]
    return told + other_kinds()
