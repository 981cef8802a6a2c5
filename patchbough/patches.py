"""Patches: rows that are done to a document one behind the other, all or none."""

from patchbough.deeds import deed_of
from patchbough.docs import copy_of
from patchbough.errors import NoFit, NoPatch, NoRow

MOST_ROWS = 40
MOST_COPIES = 3


def deeds_of(rows):
    """The deeds of the rows of a patch."""
    deeds = []
    copies = 0
    for at, row in enumerate(rows):
        try:
            deed = deed_of(row)
        except NoRow:
            raise NoPatch(at) from None
        if row[0] == "copy":
            copies = copies + 1
        if at >= MOST_ROWS or copies > MOST_COPIES:
            raise NoPatch(at)
        deeds.append(deed)
    return deeds


class Patch:
    """A list of rows; it is never changed."""

    def __init__(self, rows):
        self.deeds = deeds_of(rows)

    def rows(self):
        """The rows of this patch."""
        return [deed.told() for deed in self.deeds]

    def stages(self, doc):
        """The documents ahead of each row, and behind them the one behind all rows."""
        told = [copy_of(doc)]
        for at, deed in enumerate(self.deeds):
            try:
                told.append(deed.done(told[at]))
            except NoFit:
                raise NoFit(at) from None
        return told

    def applied(self, doc):
        """The document behind all rows."""
        return self.stages(doc)[-1]

    def unfit(self, doc):
        """The place of the first row that doesn't fit, or None."""
        try:
            self.stages(doc)
        except NoFit as refusal:
            return refusal.at
        return None

    def joined(self, other):
        """The patch of these rows and those of the other one behind them."""
        return Patch(self.rows() + other.rows())
