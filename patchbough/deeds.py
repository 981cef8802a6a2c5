"""Deeds: what the rows of a patch do to a document, a class for each of the nine words."""

from patchbough.docs import are_equal, copy_of, is_doc, kind_of
from patchbough.edits import changed_at, has_room, holder_of, put_at, taken_at
from patchbough.errors import NoFit, NoPart, NoRow
from patchbough.paths import begins, found_at, is_path

LENGTHS = {"put": 3, "take": 2, "change": 3, "move": 3, "copy": 3, "ask": 3, "has": 2, "lacks": 2, "is": 3}
WORDS_WITH_VALUE = ("put", "change", "ask")
WORDS_WITHIN = ("put", "take", "move", "lacks")
KINDS = ("row", "table")
LONGEST_PATH = 12
GREATEST_PLACE = 20


class Deed:
    """What a row does. Those under this one tell what is edited, and refuse with NoPart."""

    def done(self, doc):
        """The document behind this deed."""
        try:
            return self.edited(doc)
        except NoPart:
            raise NoFit(0) from None

    def edited(self, doc):
        raise NotImplementedError("a plain deed does nothing")

    def told(self):
        """The row that this deed was made of."""
        raise NotImplementedError("a plain deed has no row")


class Put(Deed):
    def __init__(self, path, value):
        self.path = path
        self.value = copy_of(value)

    def edited(self, doc):
        return put_at(doc, self.path, self.value)

    def told(self):
        return ("put", self.path, copy_of(self.value))


class Take(Deed):
    def __init__(self, path):
        self.path = path

    def edited(self, doc):
        return taken_at(doc, self.path)[0]

    def told(self):
        return ("take", self.path)


class Change(Deed):
    def __init__(self, path, value):
        self.path = path
        self.value = copy_of(value)

    def edited(self, doc):
        return changed_at(doc, self.path, self.value)

    def told(self):
        return ("change", self.path, copy_of(self.value))


class Move(Deed):
    def __init__(self, path, to):
        self.path = path
        self.to = to

    def edited(self, doc):
        taken = taken_at(doc, self.path)
        return put_at(taken[0], self.to, taken[1])

    def told(self):
        return ("move", self.path, self.to)


class Copy(Deed):
    def __init__(self, path, to):
        self.path = path
        self.to = to

    def edited(self, doc):
        return put_at(doc, self.to, found_at(doc, self.path))

    def told(self):
        return ("copy", self.path, self.to)


class Ask(Deed):
    def __init__(self, path, value):
        self.path = path
        self.value = copy_of(value)

    def edited(self, doc):
        return copy_where(doc, are_equal(found_at(doc, self.path), self.value))

    def told(self):
        return ("ask", self.path, copy_of(self.value))


class Has(Deed):
    def __init__(self, path):
        self.path = path

    def edited(self, doc):
        found_at(doc, self.path)
        return copy_of(doc)

    def told(self):
        return ("has", self.path)


class Lacks(Deed):
    def __init__(self, path):
        self.path = path

    def edited(self, doc):
        # A table has room for a name just where it lacks it.
        return copy_where(doc, has_room(holder_of(doc, self.path), self.path[-1]))

    def told(self):
        return ("lacks", self.path)


class Is(Deed):
    def __init__(self, path, kind):
        self.path = path
        self.kind = kind

    def edited(self, doc):
        return copy_where(doc, kind_of(found_at(doc, self.path)) == self.kind)

    def told(self):
        return ("is", self.path, self.kind)


def copy_where(doc, holds_good):
    """A copy of a document of which holds good what was asked."""
    if not holds_good:
        raise NoPart("what was asked isn't so")
    return copy_of(doc)


def has_form(thing):
    """Whether this is a tuple of one of the nine words and of as many things as it has, whatever they are."""
    if not isinstance(thing, tuple) or thing == ():
        return False
    # Only of a text is asked whether it is a word: other things may not be looked up.
    return isinstance(thing[0], str) and thing[0] in LENGTHS and len(thing) == LENGTHS[thing[0]]


def is_row_path(thing):
    """Whether this is a path that may stand in a row, whatever it is."""
    if not is_path(thing) or len(thing) > LONGEST_PATH:
        return False
    return all([isinstance(step, str) or step <= GREATEST_PLACE for step in thing])


def may_be_first(word, thing):
    """Whether this may stand right behind the word."""
    if not is_row_path(thing) or (word in WORDS_WITHIN and thing == ()):
        return False
    return word != "lacks" or isinstance(thing[-1], str)


def may_be_second(word, path, thing):
    """Whether this may stand behind the word and a path that may stand there."""
    if word in WORDS_WITH_VALUE:
        return is_doc(thing)
    if word == "is":
        return isinstance(thing, str) and thing in KINDS
    if not is_row_path(thing) or thing == ():
        return False
    return word == "copy" or not is_lost(path, thing)


def is_lost(path, to):
    """Whether a move leads into the very part that it takes, whose name is gone by then."""
    return isinstance(path[-1], str) and begins(path, to) and len(path) < len(to)


def refuse_no_row(thing):
    """Refuses what is no row, whatever it is, with the least place that is amiss."""
    if not has_form(thing):
        raise NoRow(0)
    if not may_be_first(thing[0], thing[1]):
        raise NoRow(1)
    if len(thing) > 2 and not may_be_second(thing[0], thing[1], thing[2]):
        raise NoRow(2)


def deed_of(row):
    """The deed of a row."""
    refuse_no_row(row)
    word = row[0]
    if word == "put":
        return Put(row[1], row[2])
    if word == "take":
        return Take(row[1])
    if word == "change":
        return Change(row[1], row[2])
    if word == "move":
        return Move(row[1], row[2])
    if word == "copy":
        return Copy(row[1], row[2])
    if word == "ask":
        return Ask(row[1], row[2])
    if word == "has":
        return Has(row[1])
    if word == "lacks":
        return Lacks(row[1])
    return Is(row[1], row[2])
