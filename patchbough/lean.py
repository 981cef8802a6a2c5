"""Lean patches: of a patch the rows that it can't do without."""

from patchbough.docs import are_equal
from patchbough.forms import form_of, form_of_rows
from patchbough.patches import Patch


def lean(patch):
    """The patch with no row that can be left out without another form."""
    form = form_of(patch)
    rows = patch.rows()
    at = 0
    kept = 0
    # A row that was needed may be so no longer when others are gone, so all are tried again behind each that goes.
    while kept < len(rows):
        at = at % len(rows)
        fewer = rows[:at] + rows[at + 1:]
        if are_equal(form_of_rows(fewer), form):
            rows = fewer
            kept = 0
        else:
            at = at + 1
            kept = kept + 1
    return Patch(rows)
