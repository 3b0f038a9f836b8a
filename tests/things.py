"""Objects and wears that several tests share, and plain ways to work things out again."""

import random

LETTERS = "abcdef"
WORN = ".abcdef"
SEEN = ".?abcdef"

EXAMPLE = (("a", "."), ("b", "a"), ("c", "a"))
CHAIN = (("a", "b"), ("b", "c"), ("c", "d"), ("d", "e"), ("e", "f"), ("f", "."))
RING = (("a", "b"), ("b", "c"), ("c", "a"))
TWO_PARTS = (("a", "b"), ("b", "a"), ("c", "."), ("d", "c"))
PAIRS = tuple(sorted((one, other) for one in LETTERS for other in WORN if one != other))
TWENTY = PAIRS[:20]


class Odd:
    """An object that stands nothing: neither comparison, nor length, nor truth, nor hash."""

    __hash__ = None

    def fail(self, *rest):
        raise RuntimeError("an odd object was used")

    __eq__ = __ne__ = __lt__ = __le__ = __gt__ = __ge__ = fail
    __len__ = __bool__ = __iter__ = __getitem__ = __contains__ = fail
    __str__ = __repr__ = __index__ = __int__ = fail


def nested(depth):
    """A tuple in a tuple in a tuple .."""
    thing = ()
    for _ in range(depth):
        thing = (thing,)
    return thing


def other_kinds():
    """Objects that are no str, no tuple, and no list."""
    return [None, True, False, 0, 1, -1, 10 ** 59, b"a", b"", {}, {"a": "b"}, set(), {"a"},
            frozenset(), object(), Odd, Odd(), len, range(3), iter(()), Ellipsis, 1j]


def bad_signs(good):
    """Objects that are no single sign of those in good."""
    strs = ["", " ", "g", "A", "aa", "ab", "abcdef", ".a", "..", "??", "\n", "a\n", " a", '"', "-"]
    strs += [sign for sign in SEEN if sign not in good]
    return strs + other_kinds() + [("a",), ["a"], (), [], nested(90)]


def bad_strs(good):
    """Objects that are no str of at most twenty-four of the signs in good."""
    strs = ["g", "A", " ", "\n", "a\n", "a b", "abcdefg", 'a"', "-", "a" * 25, "ab" * 5000, "a" * 23 + "g"]
    strs += ["a" + sign for sign in SEEN if sign not in good]
    return strs + other_kinds() + [("a",), ["a"], (), [], nested(90)]


def bad_wears():
    """Objects that are no wears, each for another reason."""
    pair = ("a", "b")
    return other_kinds() + bad_pairs() + [
        "", "a>b", "ab", [], [pair], list(EXAMPLE), (["a", "b"],), (pair, ["b", "c"]),
        PAIRS[:21], PAIRS, PAIRS[:20] + (("f", "z"),),
        (pair, pair), (("b", "a"), pair), (("a", "c"), pair), (("a", "a"), ("a", "b")),
        (pair, ("b", "c"), ("b", "c")), (pair, ("c", "d"), ("b", "c")), (("a", "b"), ("a", ".")),
        pair, (pair,) * 3, ((pair,),), nested(90), (nested(90),),
    ]


def bad_pairs():
    """Wears of one or two entries, one of which is no pair of a sign and another worn sign."""
    entries = [
        ("a", "a"), ("f", "f"), (".", "a"), (".", "."), ("?", "a"), ("a", "?"), ("?", "?"), ("g", "a"),
        ("a", "g"), ("", "a"), ("a", ""), ("ab", "c"), ("a", "bc"), ("A", "b"), ("a", "B"), ("a", " "),
        (), ("a",), ("a", "b", "c"), ("a", "b", 1), "ab", "a", None, 1, True, Odd(),
        (1, "a"), ("a", 1), (None, "a"), ("a", None), (True, "a"), ("a", True), (b"a", "b"), ("a", b"b"),
        (Odd(), "a"), ("a", Odd()), (["a"], "b"), ("a", ["b"]), (("a",), "b"), ("a", ("b",)),
    ]
    return [(entry,) for entry in entries] + [(("a", "."), entry) for entry in entries]


def some_wears(many):
    """As many wears of all sizes, the same ones in each run, and those that have names."""
    chance = random.Random(20261119)
    wears = [(), EXAMPLE, CHAIN, RING, TWO_PARTS, TWENTY, PAIRS[16:]]
    for number in range(many):
        wears.append(tuple(sorted(chance.sample(PAIRS, number % 21))))
    return wears


def plain_steps(wear):
    """A dict (worn, worn): least steps, by going again and again over all pairs of ways."""
    told = {(sign, sign): 0 for sign in WORN}
    for one, other in wear:
        told[(one, other)] = 1
    for middle in WORN:
        for one in WORN:
            for other in WORN:
                if (one, middle) in told and (middle, other) in told:
                    many = told[(one, middle)] + told[(middle, other)]
                    told[(one, other)] = min(many, told.get((one, other), many))
    return told
