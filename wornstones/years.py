"""Years of wear, with and without somebody who cuts signs anew, and ways of either side that can be checked.

A row is sure if the text is the only reading of it. Where a function is told wears_on, it is a dict of
the sure rows to which the text can come, with the rows to which each of them can come in one step, sure
or not; years is a dict of the same rows with the rows to which each of them can come in a year. A
standing is a row as it is at the beginning of a year.
"""

from wornstones.books import need_book, need_of, numbers_along
from wornstones.doubts import doubt
from wornstones.errors import BadNumber, NotOf, TooMany
from wornstones.kinds import WORN_SIGNS, is_integer, is_row, need_count, need_text
from wornstones.readings import costs_of
from wornstones.wearing import sum_of_steps
from wornstones.wears import all_steps, need_wear

MOST_SPEED = 4
MOST_CUTS = 4
MOST_GUARDED = 5
MOST_SURE = 300
MOST_NUMBER = 20


def years_sure(book, wear, text, speed):
    """The greatest number of years for which a text surely stays the only reading, None for ever."""
    need_book(book)
    need_wear(wear)
    need_text(text)
    need_count(speed, 1, MOST_SPEED)
    need_of(book, text)
    least = doubt(book, wear, text)
    if least is None:
        return None
    return max(0, (least - 1) // speed)


def need_five(book, wear, text, speed, cuts):
    """Raise BadBook, BadWear, BadText or BadCount for the first one that is none."""
    need_book(book)
    need_wear(wear)
    need_text(text)
    need_count(speed, 1, MOST_SPEED)
    need_count(cuts, 0, MOST_CUTS)


def need_guarded(book, text):
    """Raise NotOf for a text that is not of the book, or too long to be guarded."""
    if len(text) > MOST_GUARDED:
        raise NotOf("a text of at most five signs is asked")
    need_of(book, text)


def need_number_of_looks(thing):
    """Raise BadNumber for what is no number of looks of a wear way."""
    if not is_integer(thing) or not 1 <= thing <= MOST_NUMBER:
        raise BadNumber("an integer from 1 to 20 is asked")


def rows_on(wear, row):
    """The list of the rows to which a row can come in one step."""
    return [row[:place] + worn + row[place + 1:] for place, sign in enumerate(row)
            for one, worn in wear if one == sign]


def sure_rows(book, wear, text):
    """The wears_on of a text of the book, TooMany if there are too many sure rows."""
    costs = {worn: costs_of(wear, worn)[0] for worn in WORN_SIGNS}
    told = {text: is_sure(book, costs, text)}
    wears_on = {}
    wave = [text]
    # What can come to a row can come to each row behind it: sure rows come over sure ones alone.
    while wave:
        further = []
        for row in [kept for kept in wave if told[kept]]:
            wears_on[row] = rows_on(wear, row)
            if len(wears_on) > MOST_SURE:
                raise TooMany("the text is the only reading of more than three hundred rows")
            for after in wears_on[row]:
                if after not in told:
                    told[after] = is_sure(book, costs, after)
                    further.append(after)
        wave = further
    return wears_on


def is_sure(book, costs, row):
    """Whether a row to which the text can come has one reading alone; costs is a dict by worn signs."""
    return numbers_along(book, [costs[worn] for worn in row])[0][0] == 1


def rows_in_years(wears_on, speed):
    """The years of a text, with just one row that is not sure where a row can come to such in a year."""
    return {row: rows_in_year(wears_on, row, speed) for row in wears_on}


def rows_in_year(wears_on, row, speed):
    """The list of the rows to which a sure row can come in a year, or of one of them that is not sure."""
    found = {row: True}
    wave = [row]
    for _ in range(speed):
        further = []
        for ahead in list(wave):
            for after in wears_on[ahead]:
                if after not in wears_on:
                    return [after]
                if after not in found:
                    found[after] = True
                    further.append(after)
        wave = further
    return list(found)


def places_to_cut(text, cuts):
    """The list of the ascending tuples of at most so many places of a text, those of fewer ahead."""
    found = [()]
    some = [()]
    for _ in range(min(cuts, len(text))):
        some = [places + (place,) for places in some for place in range(len(text))
                if places == () or places[-1] < place]
        found = found + some
    return found


def cut_anew(text, row, places):
    """A row that shows the signs of the text again at some places."""
    return "".join([text[at] if at in places else worn for at, worn in enumerate(row)])


def rows_cut(text, wears_on, cuts):
    """A dict of the sure rows with the list of the rows that places_to_cut make of each of them."""
    choices = places_to_cut(text, cuts)
    return {row: [cut_anew(text, row, places) for places in choices] for row in wears_on}


def looks_held(years, behind):
    """A dict of the standings with how many looks can be held from there; those held for ever are left out.

    behind is what rows_cut tells.
    """
    held = {row: True for row in years}
    found = {}
    looks = 0
    while True:
        # What is shown is good if some cutting makes a standing of it from which so many looks can be held.
        good = {row: True for row in years if any([cut in held for cut in behind[row]])}
        lost = [row for row in held if not all([after in good for after in years[row]])]
        if not lost:
            return found
        for row in lost:
            found[row] = looks
        held = {row: True for row in held if row not in found}
        looks += 1


def guarded_years(book, wear, text, speed, cuts):
    """The greatest number of first looks at which a guarded text is surely the only reading, None for ever."""
    need_five(book, wear, text, speed, cuts)
    need_guarded(book, text)
    wears_on = sure_rows(book, wear, text)
    if text not in wears_on:
        return 0
    return looks_held(rows_in_years(wears_on, speed), rows_cut(text, wears_on, cuts)).get(text)


def guard_way(book, wear, text, speed, cuts):
    """The ascending list of (row, places) by which a text is guarded for ever, or None."""
    need_five(book, wear, text, speed, cuts)
    need_guarded(book, text)
    wears_on = sure_rows(book, wear, text)
    years = rows_in_years(wears_on, speed)
    lost = looks_held(years, rows_cut(text, wears_on, cuts))
    if text not in wears_on or text in lost:
        return None
    choices = places_to_cut(text, cuts)
    way = {}
    wave = [text]
    while wave:
        further = []
        for after in [shown for standing in wave for shown in years[standing]]:
            if after not in way:
                way[after] = [places for places in choices if cut_anew(text, after, places) not in lost][0]
                further.append(cut_anew(text, after, way[after]))
        wave = further
    return sorted([(row, places) for row, places in way.items()])


def guard_holds(book, wear, text, speed, cuts, thing):
    """Whether any object is a guard way."""
    need_five(book, wear, text, speed, cuts)
    need_guarded(book, text)
    wears_on = sure_rows(book, wear, text)
    if not isinstance(thing, list) or not all([is_guard_entry(wears_on, text, cuts, entry) for entry in thing]):
        return False
    way = {row: places for row, places in thing}
    if len(way) < len(thing) or text not in way:
        return False
    # The text cut anew is the text, so it is one of these standings, too.
    standings = {cut_anew(text, row, places): True for row, places in way.items()}
    return all([after in way for standing in standings for after in rows_in_year(wears_on, standing, speed)])


def is_guard_entry(wears_on, text, cuts, thing):
    """Whether any object is a tuple (row, places) of a guard way."""
    if not isinstance(thing, tuple) or len(thing) != 2:
        return False
    row, places = thing
    if not isinstance(row, str) or row not in wears_on:
        return False
    if not isinstance(places, tuple) or len(places) > cuts:
        return False
    if not all([is_integer(place) and 0 <= place < len(text) for place in places]):
        return False
    return all([one < other for one, other in zip(places, places[1:])])


def wear_way(book, wear, text, speed, cuts, number):
    """The ascending list of (row, left, after) by which a text is not held for so many looks, or None."""
    need_five(book, wear, text, speed, cuts)
    need_number_of_looks(number)
    need_guarded(book, text)
    wears_on = sure_rows(book, wear, text)
    if text not in wears_on:
        return [(text, number, text)]
    years = rows_in_years(wears_on, speed)
    behind = rows_cut(text, wears_on, cuts)
    held = looks_held(years, behind)
    if text not in held or held[text] >= number:
        return None
    way = {}
    wave = [(text, number)]
    while wave:
        further = []
        for row, left in list(wave):
            if (row, left) not in way:
                way[(row, left)] = worst_row(held, behind, years[row])
                # What is not sure ends it, and has no rows that are cut.
                further.extend([(cut, left - 1) for cut in behind.get(way[(row, left)], [])])
        wave = further
    return sorted([(row, left, after) for (row, left), after in way.items()])


def worst_row(held, behind, rows):
    """The row, of some that can be shown, behind which the fewest looks can be held."""
    told = [(looks_behind(held, behind, row), row) for row in rows]
    return min([(looks, row) for looks, row in told if looks is not None])[1]


def looks_behind(held, behind, row):
    """How many looks can be held from the look on that shows a row, None for ever."""
    if row not in behind:
        return 0
    told = [held.get(cut) for cut in behind[row]]
    return None if None in told else 1 + max(told)


def wear_holds(book, wear, text, speed, cuts, number, thing):
    """Whether any object is a wear way for a number."""
    need_five(book, wear, text, speed, cuts)
    need_number_of_looks(number)
    need_guarded(book, text)
    wears_on = sure_rows(book, wear, text)
    ways = all_steps(wear)
    if not isinstance(thing, list):
        return False
    if not all([is_wear_entry(ways, text, speed, entry) and entry[1] <= number for entry in thing]):
        return False
    way = {(row, left): after for row, left, after in thing}
    if len(way) < len(thing) or (text, number) not in way:
        return False
    choices = places_to_cut(text, cuts)
    for (_, left), after in way.items():
        # No tuple has 0 left, so what is seen at the last look is not sure.
        if after in wears_on and not all([(cut_anew(text, after, places), left - 1) in way for places in choices]):
            return False
    return True


def is_wear_entry(ways, text, speed, thing):
    """Whether any object is a tuple (row, left, after) of a wear way, whatever the number."""
    if not isinstance(thing, tuple) or len(thing) != 3:
        return False
    row, left, after = thing
    if not is_integer(left) or left < 1:
        return False
    if not is_worn_row(row) or not is_worn_row(after) or sum_of_steps(ways, text, row) is None:
        return False
    total = sum_of_steps(ways, row, after)
    return total is not None and total <= speed


def is_worn_row(thing):
    """Whether any object is a row without "?"."""
    return is_row(thing) and "?" not in thing
