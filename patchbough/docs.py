"""Documents: what they are, of which kind, how great, and copies of them.

What the program told may be handed in again and put within itself, so there
is no bound on how deep a document is. That is why every walk here keeps a
list of the parts that wait, and no function calls itself.
"""

from patchbough.walks import gathered

LETTERS = "abcdefghijklmnopqrstuvwxyz"
LONGEST_NAME = 8
LONGEST_TEXT = 12


def is_whole(thing):
    """Whether this is a whole number; to Python a truth is an int, here it is none."""
    return isinstance(thing, int) and not isinstance(thing, bool)


def has_letters_alone(text):
    """Whether all signs of the text are small letters."""
    return all([sign in LETTERS for sign in text])


def is_name(thing):
    """Whether this is a name, whatever it is."""
    return isinstance(thing, str) and 1 <= len(thing) <= LONGEST_NAME and has_letters_alone(thing)


def is_sound(thing):
    """Whether this may be a part of a document, whatever the cells or names of it hold."""
    if isinstance(thing, list):
        return True
    if isinstance(thing, dict):
        return all([is_name(key) for key in thing])
    if isinstance(thing, str):
        return len(thing) <= LONGEST_TEXT and has_letters_alone(thing)
    return is_whole(thing)


def is_doc(thing):
    """Whether this is a document, whatever it is."""
    waiting = [thing]
    while waiting:
        part = waiting.pop()
        if not is_sound(part):
            return False
        waiting.extend(inner_of(part))
    return True


def kind_of(doc):
    """The kind of a document."""
    if isinstance(doc, list):
        return "row"
    if isinstance(doc, dict):
        return "table"
    if isinstance(doc, str):
        return "text"
    return "number"


def steps_of(doc):
    """The steps that lead from a document into it, in the order of paths."""
    if isinstance(doc, list):
        return list(range(len(doc)))
    if isinstance(doc, dict):
        return sorted(doc)
    return []


def inner_of(doc):
    """The documents that stand right within a document, in the order of paths."""
    return [doc[step] for step in steps_of(doc)]


def size_of(doc):
    """How many parts a document has."""
    return len(gathered(doc, inner_of))


def are_level(one, other):
    """Whether two things are of one kind with the same steps into them, or are equal leaves."""
    if isinstance(one, dict):
        return isinstance(other, dict) and sorted(one) == sorted(other)
    if isinstance(one, list):
        return isinstance(other, list) and len(one) == len(other)
    if isinstance(one, tuple):
        return isinstance(other, tuple) and len(one) == len(other)
    return one == other


def are_equal(one, other):
    """Whether two documents are equal, or two tuples of documents and tuples."""
    waiting = [(one, other)]
    while waiting:
        pair = waiting.pop()
        if not are_level(pair[0], pair[1]):
            return False
        if isinstance(pair[0], tuple):
            waiting.extend(list(zip(pair[0], pair[1])))
        else:
            waiting.extend(list(zip(inner_of(pair[0]), inner_of(pair[1]))))
    return True


def outer_copy(doc):
    """A new row or table with the same things in it; of a leaf the leaf."""
    if isinstance(doc, list):
        return list(doc)
    if isinstance(doc, dict):
        return dict(doc)
    return doc


def add_at(holder, step, thing):
    """Adds a thing to a dict under its step, or to a list at its end, whatever its step is."""
    if isinstance(holder, list):
        holder.append(thing)
    else:
        holder[step] = thing


def copy_of(doc):
    """A document equal to this one, new through and through."""
    told = outer_copy(doc)
    waiting = [told]
    while waiting:
        part = waiting.pop()
        steps = steps_of(part)
        for step in steps:
            # Copied anew at each place: one list may have been handed in at two.
            part[step] = outer_copy(part[step])
            waiting.append(part[step])
    return told
