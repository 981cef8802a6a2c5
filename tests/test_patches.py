"""Patches: [3.1], [3.2], [3.3]."""

import random
import unittest

from cases import Case
from patchbough.errors import NoFit, NoPatch
from patchbough.patches import Patch
from reckoned import Misfit, all_by_hand, rows_about, wild_rows
from samples import is_new_through_and_through, nested, spoil_all, twin

NO_ROWS = (None, True, 0, 7, 1.5, "", "put", "take", [], ["has", ()], {}, {"has": ()}, set(), len, (), (None,), ([],),
           ("has",), ("puts", ("a",), 1), ("put", (), 1), ("put", ("a",), None), ("take", (21,)), ("take", ("a",) * 13),
           ("lacks", (0,)), ("is", (), "text"), ("move", ("a",), ("a", "b")), ("copy", (), ()), ("copy", ("a",), "b"))
HAS = ("has", ())
COPY = ("copy", (), (0,))
PUT = ("put", (0,), 5)


class Making(Case):
    def test_none_some_and_forty(self):
        for count in (0, 1, 2, 3, 10, 39, 40):
            rows = [("put", (0,), [number]) for number in range(count)]
            patch = Patch(rows)
            self.told(patch.rows(), rows)
            self.told(patch.applied([]), [[number] for number in reversed(range(count))])
            self.assertIs(patch.unfit([]), None)

    def test_all_rows(self):
        for doc in nested():
            for row in rows_about(doc, {"c": [8]}):
                self.told(Patch([row]).rows(), [row])
                self.told(Patch([row, HAS, row]).rows() if row[0] != "copy" else [row, HAS, row], [row, HAS, row])

    def test_what_is_no_row(self):
        for thing in NO_ROWS:
            with self.subTest(thing=thing):
                self.refused(NoPatch, 0, Patch, [thing])
                self.refused(NoPatch, 0, Patch, [thing, HAS])
                self.refused(NoPatch, 1, Patch, [HAS, thing])
                self.refused(NoPatch, 3, Patch, [PUT, COPY, HAS, thing, thing, HAS])
                self.refused(NoPatch, 39, Patch, [HAS] * 39 + [thing])
                self.refused(NoPatch, 40, Patch, [HAS] * 40 + [thing])

    def test_the_forty_first_row(self):
        for count in (41, 42, 80, 1000):
            self.refused(NoPatch, 40, Patch, [HAS] * count)
            self.refused(NoPatch, 40, Patch, [PUT] * count)
        self.told(Patch([HAS] * 40).rows(), [HAS] * 40)

    def test_the_fourth_copy(self):
        self.told(Patch([COPY] * 3).rows(), [COPY] * 3)
        self.told(Patch([COPY] * 3 + [HAS] * 37).rows(), [COPY] * 3 + [HAS] * 37)
        self.refused(NoPatch, 3, Patch, [COPY] * 4)
        self.refused(NoPatch, 3, Patch, [COPY] * 40)
        self.refused(NoPatch, 7, Patch, [HAS, COPY] * 4)
        self.refused(NoPatch, 39, Patch, [COPY] * 3 + [HAS] * 36 + [COPY])
        self.refused(NoPatch, 40, Patch, [COPY] * 3 + [HAS] * 37 + [COPY])
        self.refused(NoPatch, 5, Patch, [("copy", ("a",), ("b",)), COPY, PUT, COPY, HAS, ("copy", (), ("c", 3))])

    def test_whichever_is_first(self):
        self.refused(NoPatch, 3, Patch, [COPY] * 4 + [None])
        self.refused(NoPatch, 2, Patch, [COPY] * 2 + [None] + [COPY] * 2)
        self.refused(NoPatch, 3, Patch, [COPY] * 4 + [HAS] * 40)
        self.refused(NoPatch, 20, Patch, [HAS] * 20 + [None] + [HAS] * 40)
        self.refused(NoPatch, 40, Patch, [HAS] * 41 + [None])
        self.refused(NoPatch, 40, Patch, [HAS] * 38 + [COPY] * 6)
        self.refused(NoPatch, 39, Patch, [HAS] * 36 + [COPY] * 6)

    def test_a_copy_that_is_no_row_is_the_one_that_is_amiss(self):
        self.refused(NoPatch, 1, Patch, [COPY, ("copy", (), ()), COPY, COPY])
        self.refused(NoPatch, 3, Patch, [COPY, COPY, COPY, ("copy", (), ())])


class Applying(Case):
    def holds(self, rows, doc):
        patch = Patch(rows)
        try:
            expected = all_by_hand(rows, doc)[-1]
        except Misfit as misfit:
            at = misfit.args[0]
            self.refused(NoFit, at, patch.applied, doc)
            self.told(patch.unfit(doc), at)
        else:
            self.told(patch.applied(doc), expected)
            self.assertIs(patch.unfit(doc), None)
        self.told(patch.rows(), rows)

    def test_no_rows(self):
        for doc in nested():
            self.told(Patch([]).applied(doc), doc)
            self.assertIs(Patch([]).unfit(doc), None)

    def test_written_out(self):
        patch = Patch([("take", ("a", 0)), ("put", ("b",), {"c": 1}), ("move", ("a",), ("b", "d")), ("copy", (), ("e",))])
        self.told(patch.applied({"a": [5, 6]}), {"b": {"c": 1, "d": [6]}, "e": {"b": {"c": 1, "d": [6]}}})
        for doc, at in (({"a": []}, 0), ({}, 0), (5, 0), ([], 0), ({"a": [5], "b": 6}, 1), ({"a": [5], "e": 6}, 3)):
            self.refused(NoFit, at, patch.applied, doc)
            self.told(patch.unfit(doc), at)

    def test_each_row_is_done_to_what_the_rows_ahead_left(self):
        patch = Patch([("put", ("a",), 1), ("ask", ("a",), 1), ("take", ("a",)), ("lacks", ("a",))])
        self.told(patch.applied({"b": 2}), {"b": 2})
        patch = Patch([("take", (0,))] * 3)
        self.told(patch.applied([1, 2, 3, 4]), [4])
        self.told(patch.unfit([1, 2]), 2)
        self.refused(NoFit, 1, patch.applied, [1])

    def test_the_first_row_that_does_not_fit(self):
        for at in range(40):
            rows = [HAS] * 40
            rows[at] = ("has", ("a",))
            rows[39] = ("has", ("a",))
            self.refused(NoFit, at, Patch(rows).applied, [1])
            self.told(Patch(rows).unfit([1]), at)
            self.assertIs(Patch(rows).unfit({"a": 1}), None)

    def test_two_rows_about_a_document(self):
        doc = {"a": [1, {"b": 2}], "c": 3}
        rows = rows_about(doc, [8])
        for number, row in enumerate(rows):
            for other in rows[number % 7::7]:
                with self.subTest(row=row, other=other):
                    self.holds([row, other], doc)

    def test_wild_patches(self):
        for seed in range(60):
            chance = random.Random(seed)
            doc = chance.choice([doc for doc in nested() if isinstance(doc, (list, dict))])
            rows = wild_rows(chance, doc, chance.choice([1, 3, 6, 12]))
            with self.subTest(seed=seed):
                self.holds(rows, doc)
                for other in nested():
                    self.holds(rows, other)

    def test_forty_wild_rows(self):
        for seed in range(4):
            chance = random.Random(seed)
            doc = {"a": [1, {"b": 2}], "c": 3}
            self.holds(wild_rows(chance, doc, 40), doc)


class Joining(Case):
    def test_the_rows_of_both(self):
        rows = [("put", ("a",), [1]), ("take", ("b",)), ("is", (), "table")]
        for cut in range(4):
            one, other = Patch(rows[:cut]), Patch(rows[cut:])
            both = one.joined(other)
            self.assertIs(type(both), Patch)
            self.told(both.rows(), rows)
            self.told(both.applied({"b": 2}), {"a": [1]})
            self.told(one.rows(), rows[:cut])
            self.told(other.rows(), rows[cut:])

    def test_with_itself(self):
        patch = Patch([("put", (0,), [1])])
        self.told(patch.joined(patch).applied([]), [[1], [1]])
        self.told(patch.rows(), [("put", (0,), [1])])

    def test_forty_and_forty_one(self):
        for count in (0, 1, 20, 39, 40):
            one = Patch([HAS] * count)
            self.told(one.joined(Patch([PUT] * (40 - count))).rows(), [HAS] * count + [PUT] * (40 - count))
            if count > 0:
                self.refused(NoPatch, 40, one.joined, Patch([PUT] * (41 - count)))
                self.refused(NoPatch, 40, one.joined, Patch([PUT] * 40))

    def test_three_copies_and_four(self):
        for count in range(4):
            one = Patch([COPY, HAS] * count)
            self.told(one.joined(Patch([COPY] * (3 - count))).rows(), [COPY, HAS] * count + [COPY] * (3 - count))
        self.refused(NoPatch, 3, Patch([COPY] * 3).joined, Patch([COPY]))
        self.refused(NoPatch, 5, Patch([COPY, HAS, COPY]).joined, Patch([COPY, HAS, COPY]))
        self.refused(NoPatch, 40, Patch([HAS] * 37 + [COPY] * 3).joined, Patch([COPY]))
        self.refused(NoPatch, 39, Patch([HAS] * 36 + [COPY] * 3).joined, Patch([COPY] * 2))

    def test_what_is_refused_changes_nothing(self):
        one, other = Patch([COPY] * 3), Patch([PUT, COPY])
        self.refused(NoPatch, 4, one.joined, other)
        self.told(one.rows(), [COPY] * 3)
        self.told(other.rows(), [PUT, COPY])


class Newness(Case):
    DOC = {"a": [1, [2]], "b": {"c": [2]}}
    ROWS = [("put", ("x",), [[1], {"y": [1]}]), ("ask", ("a",), [1, [2]]), ("change", ("b", "c"), {"d": [3]}),
            ("copy", ("x",), ("z",)), ("move", ("x",), ("a", 0)), ("take", ("a", 1)), ("copy", (), ("b", "w"))]

    def applied(self, rows, doc):
        return Patch(rows).applied(doc)

    def rows_told(self, rows):
        return Patch(rows).rows()

    def joined_rows(self, rows, others):
        return Patch(rows).joined(Patch(others)).rows()

    def test_what_is_told_is_new(self):
        for count in range(len(self.ROWS) + 1):
            is_new_through_and_through(self, self.applied, [self.ROWS[:count], self.DOC])
            is_new_through_and_through(self, self.rows_told, [self.ROWS[:count]])
            is_new_through_and_through(self, self.joined_rows, [self.ROWS[:count], self.ROWS[count:]])
        for doc in nested():
            is_new_through_and_through(self, self.applied, [[], doc])
            is_new_through_and_through(self, self.applied, [[HAS], doc])

    def test_a_patch_stays_as_it_is(self):
        handed = twin(self.ROWS)
        patch = Patch(handed)
        expected = patch.applied(self.DOC)
        both = patch.joined(Patch([]))
        spoil_all(handed)
        spoil_all(patch.rows())
        spoil_all(patch.applied(self.DOC))
        spoil_all(both.rows())
        for other in (patch, both):
            self.told(other.rows(), self.ROWS)
            self.told(other.applied(self.DOC), expected)
            self.refused(NoFit, 0, other.applied, [])
            self.told(other.unfit([]), 0)
            self.told(other.rows(), self.ROWS)

    def test_rows_come_to_the_list_behind_the_making(self):
        handed = [HAS]
        patch = Patch(handed)
        handed.append(PUT)
        patch.rows().append(PUT)
        self.told(patch.rows(), [HAS])
        self.told(patch.applied([]), [])

    def test_one_value_in_two_rows(self):
        value = [1]
        patch = Patch([("put", (0,), value), ("put", (0,), value), ("put", (0, 0), value)])
        self.told(patch.applied([]), [[[1], 1], [1]])
        self.told(value, [1])

    def test_unfit_changes_nothing(self):
        doc = twin(self.DOC)
        self.assertIs(Patch(self.ROWS).unfit(doc), None)
        self.told(doc, self.DOC)
        doc = [1, [2]]
        self.told(Patch([("put", (0,), 1), ("take", ("a",))]).unfit(doc), 1)
        self.told(doc, [1, [2]])


if __name__ == "__main__":
    unittest.main()
