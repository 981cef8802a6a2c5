"""Ways back: the patch that undoes what a patch did, and the patch that asks what it takes away.

A patch keeps copies of what it is made of, so parts of documents are found here without one.
"""

from patchbough.patches import Patch
from patchbough.paths import found_at


def rows_back(row, doc):
    """The rows, one or none, that undo a row; doc is the document ahead of it."""
    word = row[0]
    path = row[1]
    if word == "put":
        return [("take", path)]
    if word == "copy":
        return [("take", row[2])]
    if word == "move":
        return [("move", row[2], path)]
    if word == "take":
        return [("put", path, found_at(doc, path))]
    if word == "change":
        return [("change", path, found_at(doc, path))]
    return []


def back_of(patch, doc):
    """The patch that leads from what a patch makes of a document back to it."""
    stages = patch.stages(doc)
    rows = []
    for at, row in enumerate(patch.rows()):
        rows.extend(rows_back(row, stages[at]))
    return Patch(list(reversed(rows)))


def rows_sealed(row, doc):
    """A row with what it takes away asked ahead of it; doc is the document ahead of both."""
    if row[0] in ("take", "change"):
        return [("ask", row[1], found_at(doc, row[1])), row]
    return [row]


def sealed(patch, doc):
    """The patch that does the same to a document and asks what it takes away."""
    stages = patch.stages(doc)
    rows = []
    for at, row in enumerate(patch.rows()):
        rows.extend(rows_sealed(row, stages[at]))
    return Patch(rows)
