"""Patches held against each other: whether they do the same, and a least document that shows where they don't.

A least document of asks has a leaf of its own wherever any may stand. So what
it shows goes for all documents of its shape; and where it doesn't part two
patches, one part more in some open row or table does, or nothing does.
"""

from patchbough.asks import both_of, found_asks, inner_nodes, is_open, lets_in
from patchbough.docs import are_equal, size_of
from patchbough.edits import put_at
from patchbough.forms import form_done, form_fits, form_of
from patchbough.least import entries_within, free_steps, justs_in, names_in, new_name, sample
from patchbough.makes import made
from patchbough.settling import narrowed
from patchbough.states import unfolded
from patchbough.walks import gathered


def same(one, other):
    """Whether two patches fit the same documents and make the same of each."""
    return are_equal(form_of(one), form_of(other))


def parted_by(one, other):
    """A least document that parts two patches with what each makes of it, or None where they are the same."""
    form = form_of(one)
    against = form_of(other)
    if are_equal(form, against):
        return None
    docs = docs_beyond(form, against) + docs_beyond(against, form) + docs_unlike(form, against)
    return told_of(min(docs, key=size_of), form, against)


def agree(one, other):
    """Whether two patches make the same of each document that both fit."""
    return docs_unlike(form_of(one), form_of(other)) == []


def disagree_by(one, other):
    """A least document of which two patches make unlike ones, with these, or None where they agree."""
    form = form_of(one)
    against = form_of(other)
    docs = docs_unlike(form, against)
    if docs == []:
        return None
    return told_of(docs[0], form, against)


def told_of(doc, form, against):
    """The tuple of a document and of what the two forms make of it."""
    return (doc, done_or_none(form, doc), done_or_none(against, doc))


def done_or_none(form, doc):
    """What a form makes of a document, or None where it doesn't fit."""
    if form_fits(form, doc):
        return form_done(form, doc)
    return None


def docs_beyond(form, against):
    """A list of one least document that the form fits and the other one doesn't, or of none."""
    if form is None:
        return []
    if against is None:
        return [sample(form[0], [])]
    least = sample(form[0], justs_in(against[0]))
    if not lets_in(against[0], least):
        return [least]
    return [put_at(least, path, 0) for path in rooms_beyond(form[0], against[0])[:1]]


def rooms_beyond(asks, against):
    """Where the asks let in one part more than a least document, and the others, which let this in, don't."""
    name = new_name(names_in(asks) + names_in(against))
    told = []
    for entry in gathered(((), asks), entries_within):
        steps = steps_beyond(entry[1], found_asks(against, entry[0]), name)
        told.extend([entry[0] + (step,) for step in steps])
    return told


def steps_beyond(asks, found, name):
    """The steps into a row or table at which the asks let in one part more, and those found there don't."""
    if found is None or found[0] == "any":
        return []
    if not is_open(found):
        return free_steps(asks, [name])
    if found[0] == "table":
        return free_steps(asks, found[2])
    return []


def docs_unlike(form, against):
    """A list of one least document that both forms fit and of which they make unlike ones, or of none."""
    if form is None or against is None:
        return []
    asks = both_of(form[0], against[0])
    if asks is None:
        return []
    makes = narrowed(form[1], form[0], asks)
    others = narrowed(against[1], against[0], asks)
    least = sample(asks, justs_in(makes) + justs_in(others))
    if not are_equal(made(makes, asks, least), made(others, asks, least)):
        return [least]
    return [put_at(least, room_at(path, asks), 0) for path in rests_apart(makes, others, asks)[:1]]


def room_at(path, asks):
    """Where a least document may have one part more in the open row or table at a path."""
    return path + (free_steps(found_asks(asks, path), [new_name(names_in(asks))])[0],)


def rests_apart(makes, others, asks):
    """The tails and rests that one of two makes has somewhere, and the other hasn't there.

    Both make the same of a least document, so cell by cell and name by name
    they can be walked together.
    """
    told = []
    first = (unfolded(makes, asks), unfolded(others, asks))
    for pair in gathered(first, lambda both: pairs_unfolded(both, asks)):
        told.extend(rests_of(pair))
    return told


def pairs_unfolded(both, asks):
    """The pairs of makes that stand at one step within two makes, told cell by cell or name by name."""
    pairs = list(zip(inner_nodes(both[0]), inner_nodes(both[1])))
    return [(unfolded(pair[0], asks), unfolded(pair[1], asks)) for pair in pairs]


def rests_of(pair):
    """The tails or rests of two rows or tables of makes, where they are unlike."""
    if pair[0][0] not in ("row", "table") or pair[0][2] == pair[1][2]:
        return []
    return [rest for rest in (pair[0][2], pair[1][2]) if rest is not None]
