"""Books that several tests share, plain ways to work things out again, and ways to call functions."""

import copy
import inspect
import itertools
import random

from tests.things import LETTERS, Odd, WORN, nested, other_kinds, plain_steps

BOOK = (2, ((0, "a", 1), (0, "b", 1), (1, "a", 0), (1, "c", 0)), (0,))
NOTHING = (1, (), ())
ONLY_EMPTY = (1, (), (0,))
ALL = (1, tuple((0, sign, 0) for sign in LETTERS), (0,))
TWELVE = (12, tuple((room, sign, (5 * room + 7 * at + 1) % 12)
                    for room in range(12) for at, sign in enumerate(LETTERS)), (0, 3))
# Room 2 leads nowhere, room 3 is not met, the doors from room 4 come back to no end.
ASTRAY = (6, ((0, "a", 1), (0, "c", 2), (0, "f", 4), (1, "b", 0), (1, "e", 2), (3, "a", 0), (4, "d", 4)), (1, 3))
LINE = (4, ((0, "d", 1), (1, "a", 2), (1, "e", 2), (2, "b", 3)), (3,))


def cycle(many, ends, sign="a"):
    """A book of as many rooms, each with one door to the next one, the last one to room 0."""
    return (many, tuple((room, sign, (room + 1) % many) for room in range(many)), tuple(ends))


def some_books(many, most=5, letters=LETTERS, seed=8):
    """As many books of one to most rooms, the same ones in each run."""
    chance = random.Random(seed)
    books = []
    for number in range(many):
        rooms = number % most + 1
        share = chance.choice([0.3, 0.6, 1])
        doors = [(room, sign, chance.randrange(rooms)) for room in range(rooms) for sign in letters
                 if chance.random() < share]
        ends = [room for room in range(rooms) if chance.random() < 0.5]
        books.append((rooms, tuple(doors), tuple(ends)))
    return books


def shuffled(book, seed):
    """A book with the same texts in which the rooms are numbered otherwise, with a room that is not met."""
    rooms, doors, ends = book
    order = list(range(1, rooms + 1))
    random.Random(seed).shuffle(order)
    new = [0] + order[:-1]
    extra = order[-1]
    changed = [(new[room], sign, new[behind]) for room, sign, behind in doors] + [(extra, "f", 0)]
    return (rooms + 1, tuple(sorted(changed)), tuple(sorted([new[room] for room in ends] + [extra])))


def bad_books():
    """Objects that are no books, most with one thing wrong."""
    doors = ((0, "a", 1), (0, "b", 1), (1, "a", 0))
    good = (2, doors, (0, 1))
    rooms = [0, -1, 13, 10 ** 59, -10 ** 59, True, False, None, "2", "", (2,), [2], b"2", 2j, Odd()]
    told = [(many, (), ()) for many in rooms] + [(1, doors, (0,)), (True, (), (0,)), (1, (), (0, 1))]
    told += [(2, some, (0, 1)) for some in bad_doors()]
    told += [(2, doors, ends) for ends in bad_ends()]
    told += [(), (2,), (2, doors), (2, doors, (0,), ()), list(good), [], [good], (good,), "", "abc", "2 doors - ends -",
             (doors, 2, (0,)), (2, (0,), doors), nested(90), (2, nested(90), ()), (2, (), nested(90))]
    return told + other_kinds()


def bad_doors():
    """What can not stand as the doors of a book of two rooms."""
    first = (0, "a", 1)
    doors = [(-1, "a", 0), (2, "a", 0), (0, "a", -1), (0, "a", 2), (0, "a", 10 ** 59), (True, "a", 0), (0, "a", True),
             (False, "a", 1), (0, "a", False), (0, "a", None), (None, "a", 0), ("0", "a", 0), (0, "a", "0"),
             (0, ".", 0), (0, "?", 0), (0, "g", 0), (0, "", 0), (0, "ab", 0), (0, "A", 0), (0, None, 0), (0, 1, 0),
             (0, b"a", 0), (0, ("a",), 0), (0, "a"), (0, "a", 0, 0), (), "0a1", None, 0, Odd(), [0, "a", 0],
             (Odd(), "a", 0), (0, Odd(), 0), (0, "a", Odd()), (0j, "a", 0), nested(90)]
    told = [(door,) for door in doors] + [(first, door) for door in doors] + [(door, (1, "f", 1)) for door in doors]
    told += [(first, first), (first, (0, "a", 0)), ((0, "a", 0), first), ((0, "b", 1), first), ((1, "a", 0), first),
             (first, (0, "c", 0), (0, "b", 0)), (first, (1, "b", 0), (1, "b", 1)), [first], [], first,
             first * 30, "", None, 0, Odd(), {}, (first,) * 73]
    return told


def bad_ends():
    """What can not stand as the ends of a book of two rooms."""
    return [(1, 0), (0, 0), (1, 1), (0, 1, 1), (0, 1, 0), (2,), (0, 2), (-1,), (-1, 0), (10 ** 59,), (True,), (False,),
            (0, True), (False, 1), ("0",), (None,), ((0,),), ([0],), (Odd(),), (0, Odd()), (0j,), [0], [], "", "0",
            0, None, {}, Odd(), nested(90)]


def plain_after(book, text):
    """The room to which a text leads, or None."""
    room = 0
    for sign in text:
        behind = [last for first, letter, last in book[1] if (first, letter) == (room, sign)]
        if not behind:
            return None
        room = behind[0]
    return room


def strings(length, signs=LETTERS):
    """All strs of so many signs, ascending."""
    return ["".join(told) for told in itertools.product(sorted(signs), repeat=length)]


def plain_texts(book, length):
    """All texts of so many signs that are of a book, ascending, by trying all strs of its signs."""
    signs = sorted({sign for _, sign, _ in book[1]})
    return [text for text in strings(length, signs) if plain_after(book, text) in book[2]]


def plain_sum(told, text, row):
    """What row_steps tells, by plain_steps of the wear; None, too, if the lengths are unlike."""
    sums = [0 if seen == "?" else told.get((sign, seen)) for sign, seen in zip(text, row)]
    return None if None in sums or len(text) != len(row) else sum(sums)


def plain_readings(book, wear, row):
    """The list, ascending, of the readings of a row with their row_steps."""
    told = plain_steps(wear)
    sums = [(text, plain_sum(told, text, row)) for text in plain_texts(book, len(row))]
    return [(text, steps) for text, steps in sums if steps is not None]


def plain_common(wear):
    """A dict of the pairs of signs that can come to one worn sign, with the least sum of steps."""
    told = plain_steps(wear)
    found = {}
    for one, other in itertools.product(LETTERS, LETTERS):
        sums = [told[(one, worn)] + told[(other, worn)] for worn in WORN
                if (one, worn) in told and (other, worn) in told]
        if sums:
            found[(one, other)] = min(sums)
    return found


def plain_states(book, wear):
    """A dict (room, other, unlike): least sum of steps, by going over all of them until nothing changes."""
    common = plain_common(wear)
    found = {(0, 0, False): 0}
    changed = True
    while changed:
        changed = False
        for (room, other, unlike), number in list(found.items()):
            for (one, sign, behind), (two, letter, beyond) in itertools.product(book[1], book[1]):
                if (one, two) == (room, other) and (sign, letter) in common:
                    state = (behind, beyond, unlike or sign != letter)
                    if number + common[(sign, letter)] < found.get(state, 10 ** 9):
                        found[state] = number + common[(sign, letter)]
                        changed = True
    return found


def plain_least_alike(book, wear):
    """What least_alike tells, by plain_states."""
    sums = [number for (room, other, unlike), number in plain_states(book, wear).items()
            if unlike and room in book[2] and other in book[2]]
    return min(sums, default=None)


def spoil(thing):
    """Empty all lists in what was returned."""
    if isinstance(thing, (list, tuple)):
        for part in thing:
            spoil(part)
    if isinstance(thing, list):
        thing.clear()


def told(function, *given):
    """What a function returns, called by position and by names, with nothing changed and lists that are new."""
    before = copy.deepcopy(given)
    first = function(*given)
    shown = repr(first)
    spoil(first)
    names = list(inspect.signature(function).parameters)
    second = function(**dict(zip(names, given)))
    if repr(second) != shown or repr(given) != repr(before):
        raise AssertionError(f"{function.__name__} does not tell the same again, or changed what it was given")
    return second


def check_kinds(test, function, good, bad):
    """Check the errors of kind: bad has, for each argument, an error and objects that are none of its kind.

    Each such object is tried behind good arguments, with good, bad and odd ones behind it.
    """
    for place, (error, things) in enumerate(bad):
        wrong = [some[0] for _, some in bad[place + 1:]]
        for number, thing in enumerate(things):
            for rest in (list(good[place + 1:]), wrong, [Odd() for _ in wrong]):
                with test.subTest(function=function.__name__, place=place, number=number):
                    with test.assertRaises(error) as held:
                        function(*good[:place], thing, *rest)
                    test.assertIs(type(held.exception), error)


def bad_counts(least, most):
    """Objects that are no integers from least to most."""
    return [least - 1, most + 1, -10 ** 59, 10 ** 59, "", str(least), (least,), [least]] + [
        thing for thing in other_kinds() if type(thing) is not int]
