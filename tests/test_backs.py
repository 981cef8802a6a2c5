"""Ways back and sealed patches: [3.4], [3.5], and of [0.7] what it says of them."""

import random
import unittest

from cases import Case
from patchbough.backs import back_of, sealed
from patchbough.docs import size_of
from patchbough.errors import NoFit, NoPatch
from patchbough.patches import Patch
from reckoned import Misfit, all_by_hand, at, neighbours, rows_about, wild_rows
from samples import is_new_through_and_through, nested, spoil_all, twin

HAS = ("has", ())


def undone(rows, stages):
    """The rows that undo these rows, reckoned by hand, from the last one to the first."""
    told = []
    for row, doc in reversed(list(zip(rows, stages))):
        word, path = row[0], row[1]
        if word in ("put", "copy"):
            told.append(("take", path if word == "put" else row[2]))
        elif word == "move":
            told.append(("move", row[2], path))
        elif word in ("take", "change"):
            told.append(({"take": "put", "change": "change"}[word], path, at(doc, path)))
    return told


def asking(rows, stages):
    """The rows with what is taken away asked ahead of each, reckoned by hand."""
    told = []
    for row, doc in zip(rows, stages):
        if row[0] in ("take", "change"):
            told.append(("ask", row[1], at(doc, row[1])))
        told.append(row)
    return told


class BackCase(Case):
    def leads_back(self, rows, doc):
        stages = all_by_hand(rows, doc)
        patch = Patch(rows)
        back = back_of(patch, doc)
        self.assertIs(type(back), Patch)
        self.told(back.rows(), undone(rows, stages))
        self.told(back.applied(patch.applied(doc)), doc)
        self.told(patch.rows(), rows)

    def seals(self, rows, doc):
        stages = all_by_hand(rows, doc)
        patch = Patch(rows)
        expected = asking(rows, stages)
        if len(expected) > 40:
            self.refused(NoPatch, 40, sealed, patch, doc)
            return
        told = sealed(patch, doc)
        self.assertIs(type(told), Patch)
        self.told(told.rows(), expected)
        self.told(told.applied(doc), stages[-1])
        self.told(patch.rows(), rows)

    def led_back_each(self, rows, doc, others):
        """Each other document that the sealed patch fits is led back to itself; tells how many it fits."""
        seal = sealed(Patch(rows), doc)
        back = back_of(seal, doc)
        self.told(back.applied(seal.applied(doc)), doc)
        fit = 0
        for other in others:
            if seal.unfit(other) is None:
                fit += 1
                self.told(back.applied(seal.applied(other)), other)
        return fit


class Backs(BackCase):
    def test_each_word(self):
        for row, back in ((("put", ("c",), [1]), [("take", ("c",))]),
                          (("take", ("a", 0)), [("put", ("a", 0), 5)]),
                          (("take", ("a",)), [("put", ("a",), [5, {"b": 6}])]),
                          (("change", ("a", 1), 7), [("change", ("a", 1), {"b": 6})]),
                          (("change", (), 7), [("change", (), {"a": [5, {"b": 6}]})]),
                          (("move", ("a", 0), ("c",)), [("move", ("c",), ("a", 0))]),
                          (("copy", ("a",), ("c",)), [("take", ("c",))]),
                          (("copy", (), ("a", 1, "d")), [("take", ("a", 1, "d"))]),
                          (("ask", ("a", 0), 5), []), (("has", ("a",)), []), (("lacks", ("c",)), []),
                          (("is", (), "table"), [])):
            doc = {"a": [5, {"b": 6}]}
            told = back_of(Patch([row]), doc)
            self.told(told.rows(), back)
            self.told(told.applied(Patch([row]).applied(doc)), doc)

    def test_no_rows(self):
        for doc in nested():
            self.told(back_of(Patch([]), doc).rows(), [])
            self.leads_back([], doc)

    def test_from_the_last_row_to_the_first(self):
        rows = [("take", (0,)), HAS, ("take", (0,)), ("put", (0,), 9), ("change", (0,), 8), ("move", (0,), (1,))]
        self.told(back_of(Patch(rows), [1, 2, 3]).rows(), [
            ("move", (1,), (0,)), ("change", (0,), 9), ("take", (0,)), ("put", (0,), 2), ("put", (0,), 1)])
        self.leads_back(rows, [1, 2, 3])

    def test_what_stood_there_by_then(self):
        rows = [("put", ("a",), 1), ("change", ("a",), 2), ("take", ("a",)), ("put", ("a",), 3), ("change", ("a",), 4)]
        self.told(back_of(Patch(rows), {}).rows(), [
            ("change", ("a",), 3), ("take", ("a",)), ("put", ("a",), 2), ("change", ("a",), 1), ("take", ("a",))])

    def test_moves_within_rows(self):
        for path, to in (((0,), (2,)), ((2,), (0,)), ((0,), (0, 1)), ((1, 0), (1,)), ((1, 0), (0,)), ((2,), (1, 0)),
                         ((0,), (0,)), ((1,), (1,)), ((0,), (0, 0))):
            self.leads_back([("move", path, to)], [5, [6], 7])

    def test_each_row_about_each_document(self):
        for doc in nested():
            for row in rows_about(doc, [8, {"c": "d"}]):
                with self.subTest(doc=doc, row=row):
                    try:
                        all_by_hand([row], doc)
                    except Misfit:
                        self.refused(NoFit, 0, back_of, Patch([row]), doc)
                        self.refused(NoFit, 1, back_of, Patch([HAS, row, ("has", (20, 20))]), doc)
                    else:
                        self.leads_back([row], doc)

    def test_refused_as_applied_is(self):
        patch = Patch([("take", ("a",)), ("put", ("b",), 1), ("take", (0,))])
        for doc, place in (({}, 0), ([], 0), ({"a": 1, "b": 1}, 1), ({"a": 1}, 2)):
            for call in (back_of, sealed, lambda patch, doc: patch.applied(doc)):
                self.refused(NoFit, place, call, patch, doc)

    def test_wild_patches(self):
        for seed in range(80):
            chance = random.Random(seed)
            doc = chance.choice([doc for doc in nested() if isinstance(doc, (list, dict))])
            rows = wild_rows(chance, doc, chance.choice([2, 5, 10]))
            with self.subTest(seed=seed):
                self.leads_back(rows, doc)
                self.seals(rows, doc)

    def test_forty_rows(self):
        for seed in range(4):
            doc = {"a": [1, {"b": 2}], "c": 3}
            self.leads_back(wild_rows(random.Random(seed), doc, 40), doc)
        self.leads_back([("change", (), number) for number in range(40)], [1])
        self.leads_back([("take", (0,))] * 40, list(range(60)))


class Sealing(BackCase):
    def test_each_word(self):
        doc = {"a": [5, {"b": 6}]}
        for row in (("put", ("c",), [1]), ("move", ("a", 0), ("c",)), ("copy", ("a",), ("c",)), ("ask", ("a", 0), 5),
                    ("has", ("a",)), ("lacks", ("c",)), ("is", (), "table")):
            self.told(sealed(Patch([row]), doc).rows(), [row])
        for row, value in ((("take", ("a",)), [5, {"b": 6}]), (("take", ("a", 1)), {"b": 6}), (("change", (), 7), doc),
                           (("change", ("a", 0), 5), 5)):
            self.told(sealed(Patch([row]), doc).rows(), [("ask", row[1], value), row])

    def test_what_stands_there_by_then(self):
        rows = [("put", ("a",), [1]), ("change", ("a", 0), 2), ("take", ("a", 0)), ("take", ("a",))]
        self.told(sealed(Patch(rows), {}).rows(), [
            rows[0], ("ask", ("a", 0), 1), rows[1], ("ask", ("a", 0), 2), rows[2], ("ask", ("a",), []), rows[3]])

    def test_forty_rows_and_more(self):
        take = ("take", (0,))
        doc = list(range(45))
        for takes, others in ((20, 0), (19, 2), (1, 38), (0, 40), (10, 20)):
            rows = [HAS] * others + [take] * takes
            self.assertEqual(len(sealed(Patch(rows), doc).rows()), 40)
            self.seals(rows, doc)
            self.seals([take] * takes + [HAS] * others, doc)
        for takes, others in ((21, 0), (20, 1), (1, 39), (2, 37), (40, 0), (30, 10)):
            for rows in ([HAS] * others + [take] * takes, [take] * takes + [HAS] * others):
                self.refused(NoPatch, 40, sealed, Patch(rows), doc)

    def test_no_fit_is_ahead_of_no_patch(self):
        rows = [("take", (0,))] * 39 + [("has", ("a",))]
        self.refused(NoFit, 39, sealed, Patch(rows), list(range(60)))
        self.refused(NoFit, 25, sealed, Patch(rows), list(range(25)))

    def test_copies_are_kept(self):
        rows = [("copy", (), (0,)), ("take", (0,))] * 3
        self.seals(rows, [1, 2])
        self.leads_back(rows, [1, 2])

    def test_each_document_is_led_back(self):
        doc = {"a": [5, {"b": 6}], "c": "x"}
        fit = 0
        for row in rows_about(doc, [8]):
            try:
                all_by_hand([row], doc)
            except Misfit:
                continue
            with self.subTest(row=row):
                fit += self.led_back_each([row], doc, neighbours(doc))
        self.assertGreater(fit, 1000)

    def test_each_document_is_led_back_from_wild_patches(self):
        fit = 0
        for seed in range(60):
            chance = random.Random(1000 + seed)
            doc = chance.choice([{"a": [5, {"b": 6}], "c": "x"}, [[1, 2], {"b": [3]}, 4], {"a": {"b": {"c": [1]}}}])
            rows = wild_rows(chance, doc, chance.choice([1, 2, 4, 8]))
            with self.subTest(seed=seed):
                fit += self.led_back_each(rows, doc, neighbours(doc))
        self.assertGreater(fit, 200)

    def test_only_what_is_asked_for_fits(self):
        seal = sealed(Patch([("take", ("a",)), ("change", ("b",), 1)]), {"a": [5], "b": {"c": 6}, "d": 7})
        self.assertIs(seal.unfit({"a": [5], "b": {"c": 6}, "x": 8}), None)
        self.told(seal.unfit({"a": [6], "b": {"c": 6}}), 0)
        self.told(seal.unfit({"a": [5], "b": {"c": 7}}), 2)


class GreatAndDeep(BackCase):
    def deep(self, levels):
        """A document so deep that was told by the program: a patch puts what it told in a row again and again."""
        doc = "end"
        for level in range(levels):
            doc = Patch([("put", ("a",), doc)]).applied({}) if level % 2 else Patch([("put", (0,), doc)]).applied([])
        return doc

    def check(self, part):
        doc = {"a": part, "b": 1}
        patch = Patch([("take", ("a",)), ("change", ("b",), 2), ("change", (), [])])
        back = back_of(patch, doc)
        self.assertEqual([row[:2] for row in back.rows()], [("change", ()), ("change", ("b",)), ("put", ("a",))])
        self.assertEqual(size_of(back.rows()[2][2]), size_of(part))
        seal = sealed(patch, doc)
        self.assertEqual([row[0] for row in seal.rows()], ["ask", "take", "ask", "change", "ask", "change"])
        self.assertEqual(size_of(seal.rows()[0][2]), size_of(part))
        again = back_of(seal, doc).applied(seal.applied(doc))
        asked = Patch([("ask", (), doc)])
        self.assertIs(asked.unfit(again), None)
        self.assertIs(asked.unfit(back.applied(patch.applied(doc))), None)
        self.assertIs(seal.unfit({"a": [part], "b": 1}), 0)

    def test_deep(self):
        for levels in (90, 101, 250, 1500):
            self.check(self.deep(levels))

    def test_deep_by_one_patch(self):
        doc = []
        copying = Patch([("copy", (), (0,) * 12)])
        for turn in range(12):
            doc = Patch([("put", (0,), doc)]).applied([])
        for turn in range(6):
            doc = copying.applied(doc)
        self.check(doc)

    def test_great(self):
        doc = list(range(150))
        doubling = Patch([("copy", (), (0,))] * 3)
        for turn in range(2):
            doc = doubling.applied(doc)
        self.assertGreater(size_of(doc), 5000)
        self.check(doc)
        self.check({"a": [10 ** 59] * 199})


class Newness(BackCase):
    DOC = {"a": [1, [2]], "b": {"c": [2]}, "d": [[2]]}
    ROWS = [("put", ("x",), [[1], {"y": [1]}]), ("take", ("a", 1)), ("change", ("b", "c"), {"d": [3]}),
            ("copy", ("x",), ("z",)), ("move", ("x",), ("a", 0)), ("take", ("a",)), ("change", ("d",), []),
            ("copy", (), ("b", "w")), ("take", ("b",))]

    def back_rows(self, rows, doc):
        return back_of(Patch(rows), doc).rows()

    def sealed_rows(self, rows, doc):
        return sealed(Patch(rows), doc).rows()

    def there_and_back(self, rows, doc):
        patch = Patch(rows)
        return back_of(patch, doc).applied(patch.applied(doc))

    def test_what_is_told_is_new(self):
        for count in range(len(self.ROWS) + 1):
            for call in (self.back_rows, self.sealed_rows, self.there_and_back):
                is_new_through_and_through(self, call, [self.ROWS[:count], self.DOC])

    def test_patches_stay_as_they_are(self):
        doc = twin(self.DOC)
        patch = Patch(self.ROWS)
        seal = sealed(patch, doc)
        back = back_of(patch, doc)
        backs = [twin(row) for row in back.rows()]
        seals = [twin(row) for row in seal.rows()]
        spoil_all(doc)
        spoil_all(patch.applied(self.DOC))
        spoil_all(seal.applied(self.DOC))
        spoil_all(back.applied(patch.applied(self.DOC)))
        spoil_all(back.rows())
        spoil_all(seal.rows())
        self.told(patch.rows(), self.ROWS)
        self.told(back.rows(), backs)
        self.told(seal.rows(), seals)
        self.told(back.applied(patch.applied(self.DOC)), self.DOC)


if __name__ == "__main__":
    unittest.main()
