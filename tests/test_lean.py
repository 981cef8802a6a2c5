"""Lean patches: [7.4], and of [0.7] what it says of them."""

import random
import unittest

from cases import Case
from patchbough.forms import form_of
from patchbough.lean import lean
from patchbough.patches import Patch
from patchbough.same import same
from reckoned import blind_rows, wild_rows
from samples import alike, is_new_through_and_through, nested, spoil_all, twin

HAS = ("has", ())


class LeanCase(Case):
    def leans(self, rows):
        """What is left has some of the rows in their order, the same form, and no row that can be left out."""
        patch = Patch(rows)
        form = form_of(patch)
        told = lean(patch)
        self.assertIs(type(told), Patch)
        left = told.rows()
        self.told(form_of(told), form)
        waiting = list(rows)
        for row in left:
            while waiting and not alike(waiting[0], row):
                waiting.pop(0)
            self.assertTrue(waiting, (rows, left))
            waiting.pop(0)
        for at in range(len(left)):
            self.assertFalse(alike(form_of(Patch(left[:at] + left[at + 1:])), form), (rows, left, at))
        self.told(patch.rows(), rows)
        return left


class Lean(LeanCase):
    def test_rows_that_change_nothing_of_the_form(self):
        for rows, left in (([], []), ([HAS], []), ([HAS] * 40, []),
                           ([("put", (0,), 5), HAS, ("has", (0,)), ("ask", (0,), 5)], [("put", (0,), 5)]),
                           ([("has", ("a",)), ("take", ("a",)), ("lacks", ("a",))], [("take", ("a",))]),
                           ([("is", (), "row"), ("has", (1,))], [("has", (1,))]),
                           ([("has", (1,)), ("is", (), "row")], [("has", (1,))]),
                           ([("has", (0,)), ("has", (1,)), ("has", (2,))], [("has", (2,))]),
                           ([("has", (2,)), ("has", (1,)), ("has", (0,))], [("has", (2,))]),
                           ([("change", (), 5), ("change", (), 6)], [("change", (), 6)]),
                           ([("ask", (), [5]), ("has", (0,)), ("is", (), "row"), ("ask", (0,), 5)], [("ask", (), [5])]),
                           ([("move", (0,), (0,)), ("has", (0,)), ("take", (0,))], [("take", (0,))]),
                           ([("put", (0,), 5), ("is", (), "row"), ("put", (1,), 6)], [("put", (0,), 5), ("put", (1,), 6)])):
            with self.subTest(rows=rows):
                self.told(self.leans(rows), left)

    def test_no_row_can_be_left_out(self):
        for rows in ([("take", (0,))], [("put", ("a",), 5), ("put", ("b",), 6)], [("take", (0,))] * 5,
                     [("lacks", ("a",)), ("lacks", ("b",)), ("has", ("c",))], [("put", ("a",), 5), ("take", ("a",))],
                     [("copy", ("a",), ("b",)), ("put", ("b", 0), 5), ("move", ("b",), ("c",))],
                     [("has", (0,)), ("has", ("a",))], [("change", ("a",), 5), ("change", ("b",), 5)]):
            with self.subTest(rows=rows):
                self.told(self.leans(rows), rows)

    def test_one_of_two_alike(self):
        for rows in ([("has", (1,)), ("has", (1,))], [("lacks", ("a",)), ("lacks", ("a",))],
                     [("change", (0,), 5), ("change", (0,), 5)], [("is", (), "row"), ("is", (), "row")]):
            self.told(self.leans(rows), rows[:1])

    def test_a_row_that_can_be_left_out_when_another_one_is_gone(self):
        # The ask of a needs the put, so the put can go only when the ask behind it is gone.
        rows = [("ask", (), {}), ("put", ("a",), 5), ("ask", ("a",), 5), ("change", (), 7)]
        self.told(self.leans(rows), [rows[0], rows[3]])
        rows = [("ask", (), {}), ("put", ("a",), []), ("put", ("a", 0), 5), ("has", ("a", 0)), ("change", (), 7)]
        self.told(self.leans(rows), [rows[0], rows[4]])
        rows = [("put", ("a",), 5), ("has", ("a",)), ("take", ("a",)), ("lacks", ("a",)), HAS]
        self.assertIn(self.leans(rows), ([("put", ("a",), 5), ("take", ("a",))], [("lacks", ("a",))]))

    def test_of_a_patch_that_fits_no_document(self):
        for rows in ([("has", (0,)), ("has", ("a",)), HAS], [HAS, ("ask", (), 5), ("put", (0,), 5), ("ask", (), 6)],
                     [("take", ("a",)), ("put", ("b",), 5), ("take", ("a",))]):
            with self.subTest(rows=rows):
                left = self.leans(rows)
                self.assertIs(form_of(Patch(left)), None)
                self.assertEqual(len(left), 2)

    def test_wild_rows(self):
        gone = 0
        for seed in range(120):
            chance = random.Random(seed)
            doc = chance.choice(nested())
            rows = wild_rows(chance, doc, chance.choice((2, 4, 6, 9)))
            with self.subTest(seed=seed):
                gone += len(rows) - len(self.leans(rows))
        self.assertGreater(gone, 100)

    def test_blind_rows(self):
        chance = random.Random(2)
        for number in range(300):
            self.leans(blind_rows(chance, chance.choice((2, 3, 5))))

    def test_nearly_a_thousand_parts(self):
        rows = [("has", (number,) + (20,) * 11) for number in range(4)]
        self.told(self.leans([("has", (3,)), ("has", (2, 20, 20))] + rows + [("is", (0,), "row")]), rows)

    def test_forty_rows_with_three_copies(self):
        value = list(range(150))
        rows = [("put", (0,), value)] * 17 + [("copy", (), (0,)), ("take", (0,))] * 3 + [("ask", (number,), value)
                                                                                         for number in range(17)]
        # A copy and the take behind it go together or not at all, and single rows alone are left out.
        self.told(self.leans(rows), rows[:23])
        rows = [("copy", (), (0,))] * 3 + [("put", (number, 0), 5) for number in range(3)] * 10 + [("has", (number,))
                                                                                                  for number in range(7)]
        self.assertEqual(len(rows), 40)
        self.told(self.leans(rows), rows[:33] + [("has", (6,))])


class Newness(LeanCase):
    ROWS = [("put", ("x",), [[1], {"y": [1]}]), HAS, ("ask", ("x",), [[1], {"y": [1]}]), ("copy", ("x",), ("z",)),
            ("change", ("z", 0), {"a": [[]]})]

    def lean_rows(self, rows):
        return lean(Patch(rows)).rows()

    def test_what_is_told_is_new(self):
        for count in range(len(self.ROWS) + 1):
            is_new_through_and_through(self, self.lean_rows, [self.ROWS[:count]])

    def test_patches_stay_as_they_are(self):
        patch = Patch(self.ROWS)
        told = lean(patch)
        rows = twin(told.rows())
        spoil_all(lean(patch).rows())
        spoil_all(told.rows())
        self.told(patch.rows(), self.ROWS)
        self.told(told.rows(), rows)
        self.told(lean(patch).rows(), rows)
        self.told(same(patch, told), True)


if __name__ == "__main__":
    unittest.main()
