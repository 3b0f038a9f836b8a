"""Looks at cleaned places of a text that is one of a lot, and papers by which it can be checked how many it takes.

Inside, a set of texts of a lot is an integer with a bit for each of its texts, so that a set
is less than each larger one that it is a part of. Where a function is told columns, they are
a list with, for each place, the list of the sets of the texts that have one sign there; parts
are what a look at a place leaves of a set, by the sign that it shows.
"""

from wornstones.errors import BadLot, BadPlace, TooMany
from wornstones.kinds import MOST_SIGNS, is_integer, is_text, need_count

MOST_TEXTS = 40
MOST_SETS = 600
MOST_PLACES = 12


def need_lot(thing):
    """Raise BadLot for what is no lot."""
    if not isinstance(thing, list) or not 1 <= len(thing) <= MOST_TEXTS or not all([is_text(text) for text in thing]):
        raise BadLot("a lot is a list of one to forty texts")
    if thing[0] == "" or not all([len(text) == len(thing[0]) for text in thing]):
        raise BadLot("the texts of a lot are of one length, which is not 0")
    if not are_ascending(thing):
        raise BadLot("the texts of a lot ascend")


def are_ascending(some):
    """Whether each thing is less than the one behind it."""
    return all([one < other for one, other in zip(some, some[1:])])


def columns_of(lot):
    """The columns of a lot."""
    found = []
    for place in range(len(lot[0])):
        groups = {}
        for at, text in enumerate(lot):
            groups[text[place]] = groups.get(text[place], 0) | (1 << at)
        found.append(list(groups.values()))
    return found


def whole_of(lot):
    """The set of all texts of a lot."""
    return (1 << len(lot)) - 1


def are_several(some):
    """Whether a set has two or more texts."""
    return some & (some - 1) != 0


def texts_in(lot, some):
    """The ascending tuple of the texts of a set."""
    return tuple([text for at, text in enumerate(lot) if (some >> at) & 1])


def parts_of(column, some):
    """The list of what a look at a place leaves of a set."""
    return [some & group for group in column if some & group]


def sets_that_come(lot, columns):
    """The ascending list of the sets of two or more texts that come by looks at any places."""
    whole = whole_of(lot)
    found = {whole: True} if are_several(whole) else {}
    wave = list(found)
    while wave:
        further = []
        for some in list(wave):
            for column in columns:
                for part in parts_of(column, some):
                    if are_several(part) and part not in found:
                        found[part] = True
                        further.append(part)
            if len(found) > MOST_SETS:
                raise TooMany("more than six hundred sets of texts come by looks")
        wave = further
    return sorted(found)


def least_looks(sets, columns, goals):
    """A dict of the sets with the least number of looks, in the worst case, behind which it is done.

    It is done with a single text, and with a set that is within one of the goals; sets with
    which it is never done are left out. The sets ascend, and are all that come.
    """
    least = {}
    for some in sets:
        if some in [some & goal for goal in goals]:
            least[some] = 0
        else:
            # A look that shows the same sign for all leaves the set itself, which is not told yet.
            told = [most_behind(least, parts_of(column, some)) for column in columns]
            numbers = [number for number in told if number is not None]
            if numbers:
                least[some] = 1 + min(numbers)
    return least


def most_behind(least, parts):
    """The greatest number of looks that one of the parts takes, or None."""
    if not all([part in least or not are_several(part) for part in parts]):
        return None
    return max([least.get(part, 0) for part in parts])


def tell_looks(lot, columns):
    """A dict of the sets that come with the least number of looks that surely tell the text."""
    return least_looks(sets_that_come(lot, columns), columns, [])


def looks_needed(lot):
    """The least number of looks with which the text can surely be told."""
    need_lot(lot)
    return tell_looks(lot, columns_of(lot)).get(whole_of(lot), 0)


def look_plan(lot):
    """The ascending list of (some, place) by which as few looks are enough as are needed."""
    need_lot(lot)
    columns = columns_of(lot)
    least = tell_looks(lot, columns)
    wave = [whole_of(lot)] if least else []
    plan = {}
    while wave:
        further = []
        for some in wave:
            plan[some] = best_places(least, columns, some)[0]
            further.extend([part for part in parts_of(columns[plan[some]], some) if are_several(part)])
        wave = [some for some in sorted(set(further)) if some not in plan]
    return sorted([(texts_in(lot, some), place) for some, place in plan.items()])


def best_places(least, columns, some):
    """The list, ascending, of the places with which as few looks as any are enough for a set."""
    # A look that shows the same sign for all leaves the set itself, which takes no fewer looks.
    return [place for place, column in enumerate(columns)
            if most_behind(least, parts_of(column, some)) == least[some] - 1]


def first_places(lot):
    """The list, ascending, of the places with which a plan of as few looks as any can begin."""
    need_lot(lot)
    columns = columns_of(lot)
    least = tell_looks(lot, columns)
    return best_places(least, columns, whole_of(lot)) if least else []


def set_of(numbers, thing):
    """The set that any object tells as an ascending tuple of two or more texts of a lot, None if it is none.

    numbers is a dict of the texts of the lot with their indexes.
    """
    if not isinstance(thing, tuple) or len(thing) < 2:
        return None
    if not all([isinstance(text, str) and text in numbers for text in thing]) or not are_ascending(thing):
        return None
    return sum([1 << numbers[text] for text in thing])


def sets_told(lot, thing):
    """A dict of sets, each with what stands beside it, by any object that is a list of such tuples, else None.

    None, too, if a set stands in it twice, or the whole lot of two or more texts does not.
    """
    if not isinstance(thing, list) or not all([isinstance(entry, tuple) and len(entry) == 2 for entry in thing]):
        return None
    numbers = {text: at for at, text in enumerate(lot)}
    found = {set_of(numbers, some): beside for some, beside in thing}
    if None in found or len(found) < len(thing):
        return None
    if are_several(whole_of(lot)) and whole_of(lot) not in found:
        return None
    return found


def plan_looks(lot, thing):
    """How many looks any object takes at most, from the whole lot on, None if it is no look plan."""
    need_lot(lot)
    plan = sets_told(lot, thing)
    if plan is None:
        return None
    columns = columns_of(lot)
    looks = {}
    # Each part is less than what it is a part of, so it is told ahead of it; a place at which
    # the texts are alike leaves the set itself, which is not told then.
    for some in sorted(plan):
        place = plan[some]
        if not is_integer(place) or not 0 <= place < len(columns):
            return None
        most = most_behind(looks, parts_of(columns[place], some))
        if most is None:
            return None
        looks[some] = 1 + most
    return looks.get(whole_of(lot), 0)


def answer_paper(lot, count):
    """An ascending list of (some, left) by which so many looks are not enough, None if they are."""
    need_lot(lot)
    need_count(count, 0, MOST_SIGNS)
    columns = columns_of(lot)
    least = tell_looks(lot, columns)
    whole = whole_of(lot)
    if least.get(whole, 0) <= count:
        return None
    found = {whole: count}
    # One look less than is needed is never enough, and leaves some part of which the same holds.
    for some in sorted(least, reverse=True):
        if found.get(some, 0) > 0:
            for part in [hardest_part(least, parts_of(column, some)) for column in columns]:
                if part != some:
                    found[part] = max(found.get(part, 0), found[some] - 1)
    return sorted([(texts_in(lot, some), left) for some, left in found.items()])


def hardest_part(least, parts):
    """A part that takes as many looks as any of them."""
    return max([(least.get(part, 0), part) for part in parts])[1]


def answers_hold(lot, count, thing):
    """Whether any object is an answer paper for a number."""
    need_lot(lot)
    need_count(count, 0, MOST_SIGNS)
    found = sets_told(lot, thing)
    if found is None or not all([is_integer(left) and left >= 0 for left in found.values()]):
        return False
    if found.get(whole_of(lot)) != count:
        return False
    columns = columns_of(lot)
    alike = {some: places_alike(columns, some) for some in found}
    return all([left == 0 or answers_all(found, alike, some, len(columns)) for some, left in found.items()])


def places_alike(columns, some):
    """An integer with a bit for each place at which the texts of a set have one sign."""
    return sum([1 << place for place, column in enumerate(columns) if parts_of(column, some) == [some]])


def answers_all(found, alike, some, many):
    """Whether for each of so many places there is an answer to a look there, if this set is left."""
    bits = 0
    for part, left in found.items():
        if part & some == part and left >= found[some] - 1:
            bits |= alike[part]
    return bits == (1 << many) - 1


def fewest_places(lot):
    """The least number of places, chosen ahead, whose signs together tell all texts apart."""
    need_lot(lot)
    return len(first_set(lot))


def place_set(lot):
    """The first tuple of as few places as any, ascending, whose signs together tell all texts apart."""
    need_lot(lot)
    return first_set(lot)


def first_set(lot):
    """What place_set tells, TooMany if the texts differ at too many places."""
    places = [place for place, column in enumerate(columns_of(lot)) if len(column) > 1]
    if len(places) > MOST_PLACES:
        raise TooMany("the texts differ at more than twelve places")
    choices = [()]
    for _ in places:
        for chosen in choices:
            if tells_apart(lot, chosen):
                return chosen
        choices = [chosen + (place,) for chosen in choices for place in places if chosen == () or chosen[-1] < place]
    # All texts are unlike, so all places at which they differ tell them apart.
    return tuple(places)


def tells_apart(lot, places):
    """Whether the signs at some places together tell all texts apart."""
    return len({"".join([text[place] for place in places]) for text in lot}) == len(lot)


def looks_for(lot, place):
    """The least number of looks with which the sign at a place, not looked at itself, can surely be told, or None."""
    need_lot(lot)
    if not is_integer(place) or not 0 <= place < len(lot[0]):
        raise BadPlace("the texts have no such place")
    columns = columns_of(lot)
    least = least_looks(sets_that_come(lot, columns), columns[:place] + columns[place + 1:], columns[place])
    whole = whole_of(lot)
    return least.get(whole) if are_several(whole) else 0
