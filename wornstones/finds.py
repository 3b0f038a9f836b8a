"""The book of finds: stones of one text as they are found, and looks at cleaned places.

A deed is a tuple: ("find", row, parent) or ("look", place, sign).
"""

from wornstones.books import need_book, numbers_along
from wornstones.copies import MOST_STONES, costs_of_copies
from wornstones.errors import BadLength, BadParent, BadPlace, Full, NothingToUndo, TooMany
from wornstones.kinds import is_integer, need_row, need_sign
from wornstones.looks import MOST_TEXTS, looks_needed
from wornstones.readings import best_places, least_text, sure_along, texts_told
from wornstones.wears import need_wear

MOST_DEEDS = 40


class Finds:
    """Finds of one text of a book, which wears by a wear."""

    def __init__(self, book, wear):
        need_book(book)
        need_wear(wear)
        self._book = book
        self._wear = wear
        self._deeds = []
        self._stones = []

    def __len__(self):
        """The number of stones."""
        return len(self._stones)

    def __getitem__(self, number):
        """The row of a stone."""
        if not is_integer(number) or not 0 <= number < len(self._stones):
            raise BadPlace("there is no stone of this number")
        return self._stones[number]

    def __iter__(self):
        """The rows of the stones, in order."""
        return iter(self._stones)

    def __eq__(self, other):
        """Whether it is a Finds with the same book, wear and deeds in force."""
        return (isinstance(other, Finds) and self._book == other._book and self._wear == other._wear
                and self._deeds == other._deeds)

    @property
    def length(self):
        """How many signs each row has, None ahead of any find."""
        return len(self._stones[0]) if self._stones else None

    def find(self, row, parent=None):
        """Note the row of a stone, the first one, or a copy of the stone parent."""
        need_row(row)
        self._need_parent(parent)
        if self._stones and len(row) != len(self._stones[0]):
            raise BadLength("all rows have the length of the first one")
        if len(self._stones) == MOST_STONES:
            raise TooMany("at most four stones are found")
        self._do(("find", row, parent))

    def _need_parent(self, thing):
        """Raise BadParent for what is no stone of which the next one can be a copy."""
        if not self._stones:
            if thing is not None:
                raise BadParent("the first stone is no copy")
        elif not is_integer(thing) or not 0 <= thing < len(self._stones):
            raise BadParent("there is no stone of this number")

    def look(self, place, sign):
        """Note that this sign was cut at this place."""
        need_sign(sign)
        if not is_integer(place) or not self._stones or not 0 <= place < len(self._stones[0]):
            raise BadPlace("the rows have no such place")
        self._do(("look", place, sign))

    def _do(self, deed):
        """Put a deed in force, Full if there are as many as can be."""
        if len(self._deeds) == MOST_DEEDS:
            raise Full("forty deeds are in force")
        self._deeds.append(deed)
        self._stones = self._rows_found()

    def undo(self):
        """Take back the last deed that has not been taken back."""
        if not self._deeds:
            raise NothingToUndo("no deed is in force")
        del self._deeds[-1]
        self._stones = self._rows_found()

    def _rows_found(self):
        """The list of the rows of the finds in force."""
        return [told for word, told, _ in self._deeds if word == "find"]

    def rows(self):
        """The tuple of the rows."""
        return tuple(self._stones)

    def parents(self):
        """The parents of all stones but the first one."""
        return tuple([parent for word, _, parent in self._deeds if word == "find" and parent is not None])

    def looks(self):
        """The list of the tuples (place, sign) that were noted, in order."""
        return [(place, sign) for word, place, sign in self._deeds if word == "look"]

    def _costs(self):
        """A list with, for each place, a dict of the signs that are left there, with their place_steps."""
        costs = costs_of_copies(self._wear, self.parents(), self.rows())
        for place, sign in self.looks():
            costs[place] = {other: many for other, many in costs[place].items() if other == sign}
        return costs

    def count(self):
        """How many texts are left, None ahead of any find."""
        return self._number_left() if self._stones else None

    def _number_left(self):
        """How many texts are left, if there is a find."""
        return numbers_along(self._book, self._costs())[0][0]

    def readings(self):
        """The list, ascending, of the texts that are left, None ahead of any find."""
        return texts_told(self._book, self._costs()) if self._stones else None

    def sure(self):
        """The str of the sure signs, "?" at the others, None if no text is left, and ahead of any find."""
        return sure_along(self._book, self._costs()) if self._stones else None

    def least(self):
        """A tuple of the least steps and the first text left with them, None if there is none, or no find."""
        return least_text(self._book, self._costs()) if self._stones else None

    def needed(self):
        """How many looks settle the text that was cut, 0 if at most one is left, and ahead of any find."""
        if not self._stones:
            return 0
        many = self._number_left()
        if many > MOST_TEXTS:
            raise TooMany("more than forty texts are left")
        return looks_needed(self.readings()) if many > 1 else 0

    def copy(self):
        """An equal Finds, with the same deeds to take back."""
        other = Finds(self._book, self._wear)
        other._deeds = list(self._deeds)
        other._stones = list(self._stones)
        return other

    def try_places(self):
        """The list, ascending, of the places with which a look leaves the fewest texts in the worst case."""
        if not self._stones:
            return []
        # More texts than can be told are too many here, too.
        costs = self._costs()
        texts_told(self._book, costs)
        return best_places(self._book, costs)
