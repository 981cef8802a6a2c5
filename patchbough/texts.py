"""Texts: how documents, paths and rows are written, and what a text writes.

Texts that write none are refused with NoText. How deep a document is that is
shown is bounded nowhere, so no function here calls itself.
"""

from patchbough.deeds import KINDS, LENGTHS, WORDS_WITH_VALUE
from patchbough.docs import LETTERS, LONGEST_TEXT, add_at, inner_of, is_name, steps_of
from patchbough.errors import NoText
from patchbough.walks import folded

FIGURES = "0123456789"
MOST_FIGURES = 60
DEEPEST = 100


class Reader:
    """Reads a text sign by sign, from its beginning on."""

    def __init__(self, text):
        self.text = text
        self.place = 0

    def passes(self, sign):
        """Whether this sign comes next; then it is passed."""
        if self.ended() or self.text[self.place] != sign:
            return False
        self.place = self.place + 1
        return True

    def run_of(self, signs):
        """The text of the signs from here on that are among these; they are passed."""
        start = self.place
        while not self.ended() and self.text[self.place] in signs:
            self.place = self.place + 1
        return self.text[start:self.place]

    def ended(self):
        """Whether the text is read to its end."""
        return self.place == len(self.text)


def refuse_unless(holds_good):
    """Refuses a text of which something doesn't hold that must."""
    if not holds_good:
        raise NoText(0)


def shown_doc(doc):
    """The text of a document."""
    return folded(doc, inner_of, shown_part)


def shown_part(doc, told):
    """The text of a document, of the texts of those right within it."""
    if isinstance(doc, list):
        return "[" + " ".join(told) + "]"
    if isinstance(doc, dict):
        return "{" + " ".join([name + ":" + text for name, text in zip(steps_of(doc), told)]) + "}"
    if isinstance(doc, str):
        return "'" + doc + "'"
    return str(doc)


def read_doc(text):
    """The document that a text writes."""
    refuse_unless(isinstance(text, str))
    reader = Reader(text)
    # Rows and tables that aren't read to their end, the innermost last, each in a list with the name that comes next.
    waiting = []
    doc = None
    while doc is None:
        doc = begun(reader, waiting)
        while doc is not None and waiting != []:
            doc = gone_on(reader, waiting, doc)
    refuse_unless(reader.ended())
    return doc


def begun(reader, waiting):
    """The document that begins here, if it also ends before another one begins; else it waits, and None is told."""
    refuse_unless(len(waiting) < DEEPEST)
    if reader.passes("["):
        return begun_holder(reader, waiting, [])
    if reader.passes("{"):
        return begun_holder(reader, waiting, {})
    if reader.passes("'"):
        return letters_in(reader)
    return number_in(reader)


def begun_holder(reader, waiting, holder):
    """The row or table that was begun, if it has nothing in it; else it waits, and None is told."""
    if reader.passes(end_of(holder)):
        return holder
    waiting.append([holder, name_in(reader, holder, "")])
    return None


def gone_on(reader, waiting, doc):
    """The innermost row or table that waits, with a document added, if it ends here; else None is told."""
    entry = waiting[-1]
    holder = entry[0]
    add_at(holder, entry[1], doc)
    if reader.passes(" "):
        entry[1] = name_in(reader, holder, entry[1])
        return None
    refuse_unless(reader.passes(end_of(holder)))
    waiting.pop()
    return holder


def end_of(holder):
    """The sign that ends the text of a row or table."""
    if isinstance(holder, list):
        return "]"
    return "}"


def name_in(reader, holder, last):
    """The name that comes next in a table, behind the last one that came; of a row None."""
    if isinstance(holder, list):
        return None
    name = reader.run_of(LETTERS)
    refuse_unless(is_name(name) and last < name and reader.passes(":"))
    return name


def letters_in(reader):
    """The text that comes next; the sign ahead of it was passed."""
    letters = reader.run_of(LETTERS)
    refuse_unless(len(letters) <= LONGEST_TEXT and reader.passes("'"))
    return letters


def number_in(reader):
    """The number that comes next."""
    if not reader.passes("-"):
        return number_of(reader.run_of(FIGURES))
    number = number_of(reader.run_of(FIGURES))
    refuse_unless(number > 0)
    return -number


def number_of(figures):
    """The number from 0 on that a text writes by its figures."""
    refuse_unless(1 <= len(figures) <= MOST_FIGURES and all([sign in FIGURES for sign in figures]))
    refuse_unless(figures == "0" or figures[0] != "0")
    return int(figures)


def shown_path(path):
    """The text of a path."""
    if path == ():
        return "/"
    return "".join(["/" + str(step) for step in path])


def read_path(text):
    """The path that a text writes."""
    refuse_unless(isinstance(text, str) and text[:1] == "/")
    if text == "/":
        return ()
    return tuple([step_of(part) for part in text[1:].split("/")])


def step_of(text):
    """The step that a text writes."""
    if is_name(text):
        return text
    return number_of(text)


def shown_rows(rows):
    """The text of a list of rows."""
    return "; ".join([shown_row(row) for row in rows])


def shown_row(row):
    """The text of a row."""
    return " ".join([row[0], shown_path(row[1])] + [shown_thing(row[0], thing) for thing in row[2:]])


def shown_thing(word, thing):
    """The text of what stands behind a word and a path."""
    if word in WORDS_WITH_VALUE:
        return shown_doc(thing)
    if word == "is":
        return thing
    return shown_path(thing)


def read_rows(text):
    """The list of rows that a text writes; of one that writes none the first row that isn't written so is told."""
    refuse_unless(isinstance(text, str))
    if text == "":
        return []
    rows = []
    for at, part in enumerate(text.split("; ")):
        try:
            rows.append(read_row(part))
        except NoText:
            raise NoText(at) from None
    return rows


def read_row(text):
    """The row that a text writes."""
    word = text.partition(" ")[0]
    rest = text.partition(" ")[2]
    refuse_unless(word in LENGTHS)
    if LENGTHS[word] == 2:
        return (word, read_path(rest))
    path = read_path(rest.partition(" ")[0])
    return (word, path, read_thing(word, rest.partition(" ")[2]))


def read_thing(word, text):
    """What a text behind a word and a path writes."""
    if word in WORDS_WITH_VALUE:
        return read_doc(text)
    if word == "is":
        refuse_unless(text in KINDS)
        return text
    return read_path(text)
