"""Forms: which documents a patch fits, and what it makes of each of them."""

from patchbough.asks import good_form, lets_in
from patchbough.errors import NoFit
from patchbough.makes import made
from patchbough.settling import settled, settled_from
from patchbough.states import FIRST, plain_makes, state_behind


def form_of(patch):
    """The form of a patch, or None where it fits no document."""
    return form_of_rows(patch.rows())


def form_of_rows(rows):
    """The form of the patch of these rows, or None where it fits no document."""
    state = FIRST
    try:
        for row in rows:
            state = state_behind(state, row)
    except NoFit:
        return None
    asks = good_form(state[0])
    return (asks, settled(plain_makes(state), asks))


def form_fits(form, doc):
    """Whether a form fits a document."""
    return form is not None and lets_in(form[0], doc)


def form_done(form, doc):
    """What a form makes of a document."""
    if not form_fits(form, doc):
        raise NoFit(0)
    return made(form[1], form[0], doc)


def identity(asks):
    """The settled makes over the asks that change nothing."""
    return settled_from((), asks)
