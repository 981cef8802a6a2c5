"""What test cases have in common: how what is told, and what is refused, is held against what is expected."""

import unittest

from patchbough.errors import BoughError, Clash, NoDeed, NoFit, NoPart, NoPatch, NoRow, NoText
from samples import alike, twin

SEVEN = (NoPart, NoRow, NoFit, NoPatch, Clash, NoText, NoDeed)


class Case(unittest.TestCase):
    def told(self, got, expected):
        """What was told is this, of the very same kinds all through."""
        if not alike(got, expected):
            self.fail(f"{got!r} is not {expected!r}")

    def refused(self, kind, at, call, *things):
        """The call is refused with this kind of error, none of the others, at this place, and changes nothing."""
        before = twin(things)
        with self.assertRaises(kind) as caught:
            call(*things)
        self.told(caught.exception.at, at)
        self.assertIsInstance(caught.exception, BoughError)
        self.assertNotIsInstance(caught.exception, tuple(error for error in SEVEN if error is not kind))
        for thing, ahead in zip(things, before):
            if isinstance(thing, (list, dict, tuple)):
                self.told(thing, ahead)
