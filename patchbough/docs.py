"""Documents: what they are, of which kind, how great, and copies of them.

What the program told may be handed in again and put within itself, so there
is no bound on how deep a document is. That is why every walk here keeps a
list of the parts that wait, and no function calls itself.
"""

LETTERS = "abcdefghijklmnopqrstuvwxyz"
LONGEST_NAME = 8
LONGEST_TEXT = 12


def is_whole(thing):
    """Whether this is a whole number; to Python a truth is an int, here it is none."""
    return isinstance(thing, int) and not isinstance(thing, bool)


def has_letters_alone(text):
    """Whether all signs of the text are small letters."""
    return all([sign in LETTERS for sign in text])


def is_name(thing):
    """Whether this is a name, whatever it is."""
    return isinstance(thing, str) and 1 <= len(thing) <= LONGEST_NAME and has_letters_alone(thing)


def is_sound(thing):
    """Whether this may be a part of a document, whatever the cells or names of it hold."""
    if isinstance(thing, list):
        return True
    if isinstance(thing, dict):
        return all([is_name(key) for key in thing])
    if isinstance(thing, str):
        return len(thing) <= LONGEST_TEXT and has_letters_alone(thing)
    return is_whole(thing)


def is_doc(thing):
    """Whether this is a document, whatever it is."""
    waiting = [thing]
    while waiting:
        part = waiting.pop()
        if not is_sound(part):
            return False
        waiting.extend(inner_of(part))
    return True


def kind_of(doc):
    """The kind of a document."""
    if isinstance(doc, list):
        return "row"
    if isinstance(doc, dict):
        return "table"
    if isinstance(doc, str):
        return "text"
    return "number"


def steps_of(doc):
    """The steps that lead from a document into it, in the order of paths."""
    if isinstance(doc, list):
        return list(range(len(doc)))
    if isinstance(doc, dict):
        return sorted(doc)
    return []


def inner_of(doc):
    """The documents that stand right within a document, in the order of paths."""
    return [doc[step] for step in steps_of(doc)]


def size_of(doc):
    """How many parts a document has."""
    size = 0
    waiting = [doc]
    while waiting:
        part = waiting.pop()
        size = size + 1
        waiting.extend(inner_of(part))
    return size


def outer_copy(doc):
    """A new row or table with the same things in it; of a leaf the leaf."""
    if isinstance(doc, list):
        return list(doc)
    if isinstance(doc, dict):
        return dict(doc)
    return doc


def copy_of(doc):
    """A document equal to this one, new through and through."""
    told = outer_copy(doc)
    waiting = [told]
    while waiting:
        part = waiting.pop()
        steps = steps_of(part)
        for step in steps:
            # Copied anew at each place: one list may have been handed in at two.
            part[step] = outer_copy(part[step])
            waiting.append(part[step])
    return told
