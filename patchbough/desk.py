"""The desk: keeps a document, patches under names, and ways back, and is told lines."""

from patchbough.backs import back_of
from patchbough.docs import is_name
from patchbough.errors import NoDeed
from patchbough.laid import laid
from patchbough.lean import lean
from patchbough.patches import Patch
from patchbough.same import parted_by, same
from patchbough.texts import read_doc, read_rows, shown_doc, shown_rows

# How many names stand behind a word, and how many of these, the first ones, have to be names of kept patches.
NAMES_BEHIND = {"show": 0, "back": 0, "do": 1, "fits": 1, "rows": 1, "lean": 2, "same": 2, "part": 2, "lay": 4}
KEPT_BEHIND = {"show": 0, "back": 0, "do": 1, "fits": 1, "rows": 1, "lean": 1, "same": 2, "part": 2, "lay": 2}
WORDS_OF_DOCUMENT = ("show", "do", "back", "fits")


def has_names(things):
    """Whether things, the parts of a line, are a word and as many names as it has behind it."""
    if things[0] not in NAMES_BEHIND or len(things) != 1 + NAMES_BEHIND[things[0]]:
        return False
    return all([is_name(thing) for thing in things[1:]])


def shown_or_none(doc):
    """The text of a document, or that of none."""
    if doc is None:
        return "none"
    return shown_doc(doc)


class Desk:
    """Keeps a document, None while there is none, patches under their names, and the ways back, the last one last."""

    def __init__(self):
        self.doc = None
        self.patches = {}
        self.ways = []

    def say(self, line):
        """The answer to a line."""
        if not isinstance(line, str):
            raise NoDeed("a line is a text")
        if line.startswith("doc "):
            return self.keep_doc(line.partition(" ")[2])
        if line.startswith("keep "):
            return self.keep_rows(line.partition(" ")[2])
        things = line.split(" ")
        if not self.is_line(things):
            raise NoDeed("this is no line that can be followed now")
        if things[0] in WORDS_OF_DOCUMENT:
            return self.answer_of_document(things[0], things[1:])
        return self.answer_of_patches(things[0], things[1:])

    def is_line(self, things):
        """Whether things, the parts of a line, are one that can be followed by what is kept."""
        if not has_names(things):
            return False
        word = things[0]
        if any([name not in self.patches for name in things[1:1 + KEPT_BEHIND[word]]]):
            return False
        if word == "lay":
            return things[3] != things[4]
        if word == "back":
            return self.ways != []
        return word not in WORDS_OF_DOCUMENT or self.doc is not None

    def answer_of_document(self, word, names):
        """The answer to a line of the document."""
        if word == "show":
            return shown_doc(self.doc)
        if word == "do":
            return self.do_patch(self.patches[names[0]])
        if word == "back":
            return self.go_back()
        at = self.patches[names[0]].unfit(self.doc)
        if at is None:
            return "yes"
        return f"no {at}"

    def answer_of_patches(self, word, names):
        """The answer to a line of patches."""
        patch = self.patches[names[0]]
        if word == "rows":
            return shown_rows(patch.rows())
        if word == "lean":
            return self.keep_lean(patch, names[1])
        other = self.patches[names[1]]
        if word == "lay":
            return self.keep_laid(patch, other, names[2:])
        if word == "same":
            return "yes" if same(patch, other) else "no"
        told = parted_by(patch, other)
        if told is None:
            return "none"
        return "\n".join([shown_or_none(doc) for doc in told])

    def keep_doc(self, text):
        """Keeps the document that a text writes, and no ways back."""
        self.doc = read_doc(text)
        self.ways = []
        return "ok"

    def keep_rows(self, text):
        """Keeps, under the name that a text begins with, the patch of the rows that it writes behind a blank."""
        parts = text.partition(" ")
        if parts[1] == "" or not is_name(parts[0]):
            raise NoDeed("a patch is kept under a name, with a blank behind it")
        self.patches[parts[0]] = Patch(read_rows(parts[2]))
        return "ok"

    def keep_laid(self, patch, other, names):
        """Keeps the rows of two patches as each is counted behind the other, under two names."""
        told = laid(patch, other)
        ones = Patch(told[0])
        others = Patch(told[1])
        # Nothing is kept before both are made: what is refused changes nothing.
        self.patches[names[0]] = ones
        self.patches[names[1]] = others
        return "ok"

    def keep_lean(self, patch, name):
        """Keeps what is left of a patch under a name."""
        self.patches[name] = lean(patch)
        return shown_rows(self.patches[name].rows())

    def do_patch(self, patch):
        """Keeps what a patch makes of the document, and the way back."""
        way = back_of(patch, self.doc)
        self.doc = patch.applied(self.doc)
        self.ways.append(way)
        return shown_doc(self.doc)

    def go_back(self):
        """Keeps the document as it was ahead of the last patch that was done."""
        self.doc = self.ways.pop().applied(self.doc)
        return shown_doc(self.doc)
