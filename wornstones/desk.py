"""A desk that answers rows with texts, and keeps a book of finds."""

from wornstones.alike import least_alike
from wornstones.copies import best_parents
from wornstones.doubts import best_cuts
from wornstones.errors import BadCommand
from wornstones.finds import Finds
from wornstones.texts import read_book, read_row, read_text, read_wear, show_book, show_row, show_wear
from wornstones.years import years_sure

FIRST_BOOK = (1, ((0, "a", 0), (0, "b", 0)), (0,))
# The parts behind the first word; a digit and a place are written without a leading zero.
FORMS = {"find": ("word",), "copy": ("digit", "word"), "look": ("place", "word"), "years": ("digit", "word")}


def has_form(word, parts):
    """Whether such parts can stand behind this first word."""
    form = FORMS.get(word, ())
    return len(parts) == len(form) and all([is_part(kind, part) for kind, part in zip(form, parts)])


def is_part(kind, part):
    """Whether it is a part of this kind."""
    if kind == "word":
        return part != ""
    return part in [str(number) for number in range(10 if kind == "digit" else 100)]


class Desk:
    """A desk with a Finds, at first of the texts of a and b, which do not wear."""

    def __init__(self):
        self._begin(FIRST_BOOK, ())

    def _begin(self, book, wear):
        """Lay a new Finds on the desk."""
        self._book = book
        self._wear = wear
        self._finds = Finds(book, wear)

    def finds(self):
        """A copy of the Finds."""
        return self._finds.copy()

    def say(self, row):
        """The answer to a row."""
        if not isinstance(row, str):
            raise BadCommand("a row is a str")
        word, blank, rest = row.partition(" ")
        if blank == "":
            return self._answer(word)
        if word == "book":
            self._begin(read_book(rest), self._wear)
        elif word == "wear":
            self._begin(self._book, read_wear(rest))
        else:
            parts = rest.split(" ")
            if not has_form(word, parts):
                raise BadCommand("the row has none of the forms")
            if word == "years":
                return self._years(int(parts[0]), read_text(parts[1]))
            self._note(word, parts)
        return "ok"

    def _note(self, word, parts):
        """Do a find or a look."""
        if word == "look":
            self._finds.look(int(parts[0]), parts[1])
        elif word == "copy":
            self._finds.find(read_row(parts[1]), int(parts[0]))
        else:
            self._finds.find(read_row(parts[0]))

    def _answer(self, word):
        """The answer to a row of one word."""
        if word == "undo":
            self._finds.undo()
            return "ok"
        if word == "needed":
            return str(self._finds.needed())
        if word == "alike":
            least = least_alike(self._book, self._wear)
            return "never" if least is None else str(least)
        if word == "cuts":
            return "".join(best_cuts(self._book, self._wear)[1])
        if word == "rows":
            return " ".join([show_row(row) for row in self._finds.rows()]) if len(self._finds) else "none"
        if word == "show":
            return f"{show_book(self._book)} | {show_wear(self._wear)}"
        if word == "parents":
            return self._parents()
        if word in ("count", "sure", "least"):
            return self._left(word)
        raise BadCommand("the row has none of the forms")

    def _left(self, word):
        """What is told of the texts that are left."""
        if len(self._finds) == 0:
            return "any"
        if word == "count":
            return str(self._finds.count())
        if word == "sure":
            signs = self._finds.sure()
            return "none" if signs is None else show_row(signs)
        least = self._finds.least()
        return "none" if least is None else f"{least[0]} {show_row(least[1])}"

    def _parents(self):
        """The first of the parents for which the rows ask the fewest steps."""
        if len(self._finds) <= 1:
            return "none"
        best = best_parents(self._book, self._wear, self._finds.rows())
        return "none" if best is None else " ".join([str(parent) for parent in best[1][0]])

    def _years(self, speed, text):
        """How many years a text stays sure."""
        years = years_sure(self._book, self._wear, text, speed)
        return "ever" if years is None else str(years)
