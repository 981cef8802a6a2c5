"""Patches laid over one another: [8.5], [8.6], and of [0.8] what it says of them."""

import random
import unittest

from cases import Case
from patchbough.errors import BoughError, Clash, NoPatch
from patchbough.forms import form_of
from patchbough.laid import laid
from patchbough.over import clashes, over
from patchbough.patches import Patch
from patchbough.same import same
from reckoned import WORDS, all_by_hand, blind_row, blind_rows, outcome, wild_rows
from samples import is_new_through_and_through, nested, spoil_all, twin

HAS = ("has", ())


def laid_by_hand(one, other):
    """The two lists, or the places of the first two rows that clash: the rows stand as the sides of a grid.

    Each field of the grid is entered by a row from either side and left by both, told over each other.
    """
    across, down = {}, {}
    for i, row in enumerate(one):
        down[i, 0] = row
    for j, row in enumerate(other):
        across[0, j] = row
    for i in range(len(one)):
        for j in range(len(other)):
            if clashes(down[i, j], across[i, j]):
                return (i, j)
            down[i, j + 1] = over(down[i, j], across[i, j], True)
            across[i + 1, j] = over(across[i, j], down[i, j], False)
    return ([down[i, len(other)] for i in range(len(one))], [across[len(one), j] for j in range(len(other))])


class LaidCase(Case):
    def refused_laid(self, one, other, places):
        first, second = Patch(one), Patch(other)
        with self.assertRaises(Clash) as caught:
            laid(first, second)
        self.told((caught.exception.at, caught.exception.other), places)
        self.assertIsInstance(caught.exception, BoughError)
        self.told(first.rows(), one)
        self.told(second.rows(), other)

    def lays(self, one, other):
        """Both lists are right, and both ways round are one patch; tells the two lists or None."""
        expected = laid_by_hand(one, other)
        if isinstance(expected[0], int):
            self.refused_laid(one, other, expected)
            return None
        told = laid(Patch(one), Patch(other))
        self.assertIs(type(told), tuple)
        self.told(told, expected)
        self.both_ways_round(one, other, told)
        return told

    def both_ways_round(self, one, other, told):
        try:
            ahead, behind = Patch(one + told[1]), Patch(other + told[0])
        except NoPatch:
            return
        self.told(form_of(ahead), form_of(behind))
        self.told(same(ahead, behind), True)


class Laid(LaidCase):
    def test_told_out(self):
        for one, other, ones, others in (
                ([], [], [], []),
                ([("take", (0,))], [], [("take", (0,))], []),
                ([], [("take", (0,))], [], [("take", (0,))]),
                ([("take", (0,))], [("put", (0,), 5)], [("take", (1,))], [("put", (0,), 5)]),
                ([("put", (1,), 5)], [("put", (1,), 6)], [("put", (1,), 5)], [("put", (2,), 6)]),
                ([("put", (0,), 1), ("put", (1,), 2)], [("put", (0,), 3), ("put", (1,), 4)],
                 [("put", (0,), 1), ("put", (1,), 2)], [("put", (2,), 3), ("put", (3,), 4)]),
                ([("put", (0,), 1), ("take", (0,))], [("put", (0,), 3)],
                 [("put", (0,), 1), ("take", (0,))], [("put", (0,), 3)]),
                ([("move", ("a",), ("b",)), ("put", ("a",), 5)], [("put", ("a", 0), 6), ("has", ("a", 1))],
                 [("move", ("a",), ("b",)), ("put", ("a",), 5)], [("put", ("b", 0), 6), ("has", ("b", 1))]),
                ([("take", (0,)), ("take", (0,))], [("ask", (2,), 7), ("change", (2,), 8), ("move", (2,), (3,))],
                 [("take", (0,)), ("take", (0,))], [("ask", (0,), 7), ("change", (0,), 8), ("move", (0,), (1,))]),
                ([HAS, HAS], [HAS], [HAS, HAS], [HAS])):
            with self.subTest(one=one, other=other):
                self.told(laid(Patch(one), Patch(other)), (ones, others))
                self.lays(one, other)

    def test_one_is_the_first(self):
        one, other = [("put", (0,), "one")], [("put", (0,), "two")]
        told = laid(Patch(one), Patch(other))
        self.told(all_by_hand(one + told[1], [])[-1], ["one", "two"])
        self.told(all_by_hand(other + told[0], [])[-1], ["one", "two"])
        told = laid(Patch(other), Patch(one))
        self.told(all_by_hand(other + told[1], [])[-1], ["two", "one"])
        self.told(all_by_hand(one + told[0], [])[-1], ["two", "one"])

    def test_wild_patches(self):
        done = 0
        for seed in range(400):
            chance = random.Random(seed)
            doc = chance.choice(nested() + [[[1, 2], 3, [4, [5, 6], 7]], {"a": [1, [2, 3], 4], "b": [5, 6]}])
            one = wild_rows(chance, doc, chance.choice((1, 2, 3)))
            other = wild_rows(chance, doc, chance.choice((1, 2, 3)))
            with self.subTest(seed=seed):
                told = self.lays(one, other)
                if told is not None:
                    done += 1
                    self.told(all_by_hand(one + told[1], doc)[-1], all_by_hand(other + told[0], doc)[-1])
        self.assertGreater(done, 100)

    def test_blind_patches(self):
        chance = random.Random(5)
        done = 0
        for number in range(1200):
            one, other = (blind_rows(chance, chance.choice((0, 1, 1, 2, 3))) for turn in range(2))
            told = self.lays(one, other)
            if told is not None:
                done += 1
                for doc in nested():
                    ahead, behind = outcome(one + told[1], doc), outcome(other + told[0], doc)
                    self.told(behind, ahead)
        self.assertGreater(done, 400)

    def test_several_rows_of_one_document(self):
        done = 0
        for seed in range(60):
            chance = random.Random(900 + seed)
            one, other = ([], [])
            for rows, side in ((one, "a"), (other, "b")):
                for row in wild_rows(chance, [1, [2, {"b": 3}], {"a": [4]}], 6):
                    paths = [(side,) + thing if isinstance(thing, tuple) else thing for thing in row[1:]]
                    rows.append((row[0],) + tuple(paths))
            rows = one[:3] + [("move", ("a",), ("c",))]
            for first, second in ((one, other), (rows, other)):
                told = self.lays(first, second)
                self.told(told, (first, second))
                done += 1
            self.lays(one, other + one[:1])
        self.assertEqual(done, 120)


class Clashes(LaidCase):
    def test_which_two_are_told(self):
        put, take, has = ("put", ("a",), 5), ("take", ("a",)), ("has", ("a",))
        for one, other, places in (([take], [has], (0, 0)), ([HAS, take], [has], (1, 0)), ([take], [HAS, has], (0, 1)),
                                   ([HAS, HAS, take], [HAS, has, has], (2, 1)), ([take, put], [has, has], (0, 0)),
                                   ([("has", ("b",)), take], [("take", ("b",)), has], (0, 0)),
                                   ([("has", ("b",)), take], [has, ("take", ("b",))], (0, 1)),
                                   ([HAS, ("take", ("b",)), ("take", ("c",))],
                                    [("has", ("c",)), ("has", ("b",)), ("has", ("b",))], (1, 1))):
            with self.subTest(one=one, other=other):
                self.refused_laid(one, other, places)
                self.assertEqual(laid_by_hand(one, other), places)

    def test_as_they_are_counted_by_then(self):
        # The rows clash by where they lead behind the rows ahead of them.
        self.refused_laid([("take", (1,))], [("put", (0,), 5), ("take", (2,))], (0, 1))
        self.refused_laid([("take", (0,)), ("take", (0,))], [("has", (1,))], (1, 0))
        self.lays([("take", (1,))], [("put", (0,), 5), ("take", (1,))])
        self.refused_laid([("move", ("a",), ("b",)), ("take", ("b",))], [("has", ("a", 0))], (1, 0))
        self.refused_laid([("has", ("a",))], [("move", ("a",), ("b",)), ("take", ("b",))], (0, 1))

    def test_wild_clashes(self):
        chance = random.Random(6)
        places = set()
        for number in range(800):
            one, other = ([blind_row(chance, WORDS) for turn in range(3)] for side in range(2))
            told = laid_by_hand(one, other)
            if isinstance(told[0], int):
                places.add(told)
                self.refused_laid(one, other, told)
        self.assertEqual(len(places), 9)


class Bounds(LaidCase):
    def test_more_than_a_row_of_a_patch_may_have(self):
        told = self.lays([("put", (20,), 5)], [("put", (0,), 6)])
        self.told(told, ([("put", (21,), 5)], [("put", (0,), 6)]))
        self.refused(NoPatch, 1, Patch, [HAS] + told[0])
        told = self.lays([("has", ("a",) * 12)], [("move", ("a",), ("b", "c"))])
        self.told(told, ([("has", ("b", "c") + ("a",) * 11)], [("move", ("a",), ("b", "c"))]))
        self.refused(NoPatch, 0, Patch, told[0])
        self.lays([("has", ("a",) * 12), ("put", (20,), 5)], [HAS, HAS])

    def test_forty_rows(self):
        one = [("put", (number % 21,), number) for number in range(21)] + [("has", (number,)) for number in range(19)]
        other = [("put", (0,), [number]) for number in range(40)]
        self.lays(one, other)
        self.lays(other, one)
        names = [first + second for first in "abcdefg" for second in "uvwxyz"]
        self.lays([("put", (name,), 5) for name in names[:40]], [("lacks", (name + "a",)) for name in names[:40]])
        self.lays([("put", (name,), 5) for name in names[:20]], [("copy", (names[40],), (name,)) for name in names[20:23]])


class Newness(LaidCase):
    ONE = [("put", ("x",), [[1], {"y": [1]}]), ("change", ("a", 1), {"d": [3]}), ("ask", ("b",), [[2]])]
    OTHER = [("put", ("a", 0), [[1], [1]]), ("move", ("b",), ("c",)), ("put", ("z",), {"q": [[]]})]

    def lists(self, one, other):
        return laid(Patch(one), Patch(other))

    def test_what_is_told_is_new(self):
        for count in range(4):
            is_new_through_and_through(self, self.lists, [self.ONE[:count], self.OTHER])
            is_new_through_and_through(self, self.lists, [self.OTHER[:count], self.ONE])

    def test_patches_stay_as_they_are(self):
        one, other = Patch(self.ONE), Patch(self.OTHER)
        told = twin(laid(one, other))
        spoil_all(laid(one, other))
        self.told(one.rows(), self.ONE)
        self.told(other.rows(), self.OTHER)
        self.told(laid(one, other), told)


if __name__ == "__main__":
    unittest.main()
