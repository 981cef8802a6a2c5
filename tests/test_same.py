"""Two patches held against each other: [7.1], [7.2], [7.3], and of [0.6] what it says of them."""

import random
import unittest

from askings import small_docs
from cases import Case
from patchbough.forms import form_of
from patchbough.patches import Patch
from patchbough.same import agree, disagree_by, parted_by, same
from reckoned import blind_row, blind_rows, neighbours, outcome, wild_rows
from samples import alike, is_new_through_and_through, nested, routes, spoil_all, twin

HAS = ("has", ())
NOTHING = [("has", (0,)), ("has", ("a",))]
WORDS = ("put", "take", "change", "move", "ask", "has", "lacks", "is")

EQUAL = (
    ([], [HAS]),
    ([], [HAS, HAS, HAS]),
    ([("change", (0,), 5)], [("take", (0,)), ("put", (0,), 5)]),
    ([("change", ("a",), 5)], [("take", ("a",)), ("put", ("a",), 5)]),
    ([("move", (0,), (1,))], [("move", (1,), (0,))]),
    ([("move", (0,), (2,)), ("move", (0,), (2,))], [("move", (2,), (0,))]),
    ([("copy", (0,), (1,)), ("take", (0,))], [("has", (0,))]),
    ([("copy", (0,), (0,))], [("copy", (0,), (1,))]),
    ([("lacks", ("a",)), ("lacks", ("b",))], [("lacks", ("b",)), ("lacks", ("a",))]),
    ([("put", ("a",), 5), ("take", ("a",))], [("lacks", ("a",))]),
    ([("put", (0,), 5), ("take", (0,))], [("is", (), "row")]),
    ([("ask", (), [])], [("is", (), "row"), ("ask", (), [])]),
    ([("ask", (), {"a": 5}), ("change", ("a",), 6)], [("ask", (), {"a": 5}), ("change", (), {"a": 6})]),
    ([("ask", ("a",), 5), ("copy", ("a",), ("b",))], [("ask", ("a",), 5), ("put", ("b",), 5)]),
    ([("move", ("a",), ("b",)), ("move", ("b",), ("a",))], [("has", ("a",)), ("lacks", ("b",))]),
    ([("copy", ("a",), ("b",)), ("take", ("a",))], [("move", ("a",), ("b",))]),
    ([("take", (1,)), ("take", (0,))], [("take", (0,)), ("take", (0,))]),
    (NOTHING, [("ask", (), 5), ("ask", (), 6)]),
    (NOTHING, [("take", (0,)), ("put", ("a",), 5)]),
)

# Two patches, and how many parts a least document has that parts them, and one of which they make unlike ones.
UNLIKE = (
    ([], [("is", (), "row")], 1, None),
    ([], [("change", (), 5)], 1, 1),
    ([("change", (), 6)], [("change", (), 5)], 1, 1),
    ([("put", (0,), 5)], [("put", (0,), 6)], 1, 1),
    ([("put", (0,), 5)], [("put", (1,), 5)], 1, 2),
    ([("has", (0,))], [("has", (1,))], 2, None),
    ([("has", ("a",))], [("lacks", ("a",))], 1, None),
    ([("is", (), "table")], [("lacks", ("a",))], 2, None),
    ([("is", (), "table")], [("ask", (), {})], 2, None),
    ([("is", (), "row")], [("ask", (), [])], 2, None),
    ([("is", (0,), "row")], [("ask", (0,), [])], 3, None),
    ([("lacks", ("b",))], [("lacks", ("b",)), ("lacks", ("c",))], 2, None),
    ([("lacks", ("a",))], [("lacks", ("b",))], 2, None),
    ([("ask", (), 5)], [("ask", (), 6)], 1, None),
    ([("ask", (), [5, 5])], [("ask", (), [5, 6])], 3, None),
    ([("has", ("a",))], [("ask", ("a",), [1, 2, 3])], 2, None),
    ([("take", (0,))], [("take", (1,))], 2, 3),
    ([("move", (0,), (1,))], [("has", (1,))], 3, 3),
    ([("take", (0,)), ("put", (0,), 5)], [("take", (0,)), ("put", (0,), 6)], 2, 2),
    # Of the least documents both make the same: only what an open row or table has more parts them.
    ([("is", (), "row"), ("change", (), [])], [("is", (), "row")], 2, 2),
    ([("is", (), "table"), ("change", (), {})], [("is", (), "table")], 2, 2),
    ([("is", (0,), "row"), ("is", (1,), "row"), ("change", (), [[], []])], [("is", (0,), "row"), ("is", (1,), "row")], 4, 4),
    ([("is", (0,), "row"), ("is", (1,), "row"), ("move", (0,), (1,))], [("is", (0,), "row"), ("is", (1,), "row")], 4, 4),
    ([("is", ("a",), "table"), ("is", ("b",), "table"), ("move", ("a",), ("c",)), ("move", ("b",), ("a",)),
      ("move", ("c",), ("b",))],
     [("is", ("a",), "table"), ("is", ("b",), "table"), ("lacks", ("c",))], 4, 4),
    ([("put", (1,), 5)], [("put", (2,), 5)], 2, 3),
    ([("ask", (0,), 5), ("is", (), "row"), ("change", (), [5])], [("ask", (0,), 5)], 3, 3),
    (NOTHING, [], 1, None),
    (NOTHING, [("has", (2,)), ("ask", (0,), [7])], 5, None),
    (NOTHING, [("ask", (), {"a": {"b": 5}})], 3, None),
)


def parts(doc):
    return len(routes(doc))


class SameCase(Case):
    DOCS = sorted(small_docs(), key=parts)

    def is_parting(self, told, one, other):
        """What is told is a document with what the rows make of it by hand, and these are unlike."""
        self.assertIs(type(told), tuple)
        self.assertEqual(len(told), 3)
        self.told(told[1], outcome(one, told[0]))
        self.told(told[2], outcome(other, told[0]))
        self.assertFalse(alike(told[1], told[2]))

    def is_least(self, told, one, other, both):
        """No small document with fewer parts does so, and none of those that this one less one part is."""
        fewer = [doc for doc in self.DOCS + neighbours(told[0]) if parts(doc) < parts(told[0])]
        for doc in fewer:
            ones, others = outcome(one, doc), outcome(other, doc)
            if both and (ones is None or others is None):
                continue
            self.assertTrue(alike(ones, others), (one, other, doc, told))

    def holds(self, one, other, docs):
        """All four are right of two patches, as far as these documents show it."""
        first, second = Patch(one), Patch(other)
        told, unlike = parted_by(first, second), disagree_by(first, second)
        self.told(same(first, second), told is None)
        self.told(agree(first, second), unlike is None)
        for doc in docs:
            ones, others = outcome(one, doc), outcome(other, doc)
            if not alike(ones, others):
                self.assertIsNotNone(told, (one, other, doc))
                self.assertLessEqual(parts(told[0]), parts(doc))
                if ones is not None and others is not None:
                    self.assertIsNotNone(unlike, (one, other, doc))
                    self.assertLessEqual(parts(unlike[0]), parts(doc))
        if told is not None:
            self.is_parting(told, one, other)
        if unlike is not None:
            self.is_parting(unlike, one, other)
            self.assertNotIn(None, unlike)
            self.assertLessEqual(parts(told[0]), parts(unlike[0]))
        return told, unlike


class Same(SameCase):
    def test_equal_by_other_rows(self):
        for one, other in EQUAL:
            with self.subTest(one=one, other=other):
                self.told(same(Patch(one), Patch(other)), True)
                self.told(same(Patch(other), Patch(one)), True)
                self.told(form_of(Patch(one)), form_of(Patch(other)))
                self.assertEqual(self.holds(one, other, self.DOCS), (None, None))
                self.assertEqual(self.holds(other, one, []), (None, None))

    def test_each_patch_is_the_same_as_itself(self):
        chance = random.Random(1)
        for number in range(100):
            rows = blind_rows(chance, 3)
            self.assertEqual(self.holds(rows, twin(rows), []), (None, None))

    def test_two_that_fit_no_document(self):
        patches = [Patch(rows) for rows in (NOTHING, [("ask", (), 5), ("take", (0,))], [("put", (0,), 5), ("ask", (), [])])]
        for one in patches:
            for other in patches:
                self.told(same(one, other), True)
                self.assertIs(parted_by(one, other), None)
                self.told(agree(one, other), True)
                self.assertIs(disagree_by(one, other), None)


class Unlike(SameCase):
    def test_told_out(self):
        for one, other, size, both in UNLIKE:
            with self.subTest(one=one, other=other):
                for first, second in ((one, other), (other, one)):
                    told, unlike = self.holds(first, second, self.DOCS)
                    self.assertEqual(parts(told[0]), size)
                    self.assertEqual(None if unlike is None else parts(unlike[0]), both)
                    self.is_least(told, first, second, False)

    def test_the_one_fits_no_document(self):
        told = parted_by(Patch(NOTHING), Patch([("change", (0,), 5)]))
        self.assertIs(told[1], None)
        self.told(told[2], [5])
        told = parted_by(Patch([("put", ("a",), [7])]), Patch(NOTHING))
        self.told(told, ({}, {"a": [7]}, None))
        for rows in ([], [("has", (3,))]):
            self.told(agree(Patch(NOTHING), Patch(rows)), True)
            self.told(agree(Patch(rows), Patch(NOTHING)), True)
            self.assertIs(disagree_by(Patch(NOTHING), Patch(rows)), None)

    def test_the_one_doesnt_fit_it(self):
        told = parted_by(Patch([("has", (0,))]), Patch([("has", (1,))]))
        self.told(told[1], told[0])
        self.assertIs(told[2], None)
        told = parted_by(Patch([("has", (1,))]), Patch([("has", (0,))]))
        self.assertIs(told[1], None)
        self.told(told[2], told[0])

    def test_no_document_is_fit_by_both(self):
        for one, other in (([("has", (0,))], [("change", ("a",), 5)]), ([("ask", (), 5)], [("ask", (), 6), ("change", (), 5)]),
                           ([("lacks", ("a",))], [("take", ("a",))]), ([("ask", (), [5])], [("take", (1,))])):
            self.told(agree(Patch(one), Patch(other)), True)
            self.assertIs(disagree_by(Patch(one), Patch(other)), None)
            self.told(same(Patch(one), Patch(other)), False)
            self.holds(one, other, self.DOCS)

    def test_they_agree_and_fit_other_documents(self):
        for one, other in (([("has", (0,))], [("has", (1,))]), ([], [("ask", (), 5)]),
                           ([("change", (), 5)], [("ask", (), [6]), ("change", (), 5)]),
                           ([("take", ("a",))], [("ask", ("a",), 5), ("lacks", ("b",)), ("take", ("a",))]),
                           ([("change", ("a",), 5)], [("ask", ("a",), 5)]),
                           ([("put", (0,), 5), ("has", (3,))], [("put", (0,), 5)])):
            with self.subTest(one=one, other=other):
                self.told(agree(Patch(one), Patch(other)), True)
                self.assertIs(disagree_by(Patch(one), Patch(other)), None)
                self.told(same(Patch(one), Patch(other)), False)
                self.holds(one, other, self.DOCS)

    def test_leaves_of_both_are_kept_apart(self):
        # A least document may have none of the leaves that stand in the one's or the other's rows.
        for number in range(8):
            for one, other in (([], [("change", (), number)]), ([], [("ask", (), number)]),
                               ([("has", (0,))], [("change", (0,), number)]),
                               ([("has", (0,))], [("ask", (0,), number)]),
                               ([("has", (1,))], [("ask", (0,), number)]),
                               ([("change", (0,), number)], [("has", (0,))])):
                told = self.holds(one, other, self.DOCS)[0]
                self.is_least(told, one, other, False)

    def test_wild_pairs(self):
        chance = random.Random(3)
        counts = {True: 0, False: 0}
        sizes = {}
        for number in range(700):
            one = blind_rows(chance, chance.choice((1, 2, 2, 3)))
            other = self.akin(chance, one) if number % 4 else blind_rows(chance, 2)
            told, unlike = self.holds(one, other, chance.sample(self.DOCS, 60))
            counts[told is None] += 1
            if told is not None:
                sizes[parts(told[0])] = sizes.get(parts(told[0]), 0) + 1
                if number % 5 == 0:
                    self.is_least(told, one, other, False)
            if unlike is not None:
                self.is_least(unlike, one, other, True)
        self.assertGreater(counts[True], 50)
        self.assertGreater(counts[False], 300)
        self.assertGreater(len(sizes), 5)

    def akin(self, chance, rows):
        """Rows like these, one or two of them left out, put in or changed about."""
        rows = twin(rows)
        for turn in range(chance.choice((1, 1, 2))):
            way = chance.random()
            if way < 0.3 and rows:
                rows.pop(chance.randrange(len(rows)))
            elif way < 0.8:
                rows.insert(chance.randint(0, len(rows)), blind_row(chance, WORDS))
            else:
                chance.shuffle(rows)
        return rows

    def test_wild_pairs_about_one_document(self):
        for seed in range(60):
            chance = random.Random(seed)
            doc = chance.choice(nested())
            one = wild_rows(chance, doc, chance.choice((1, 2, 4)))
            other = one[:-1] if seed % 2 else wild_rows(chance, doc, 2)
            with self.subTest(seed=seed):
                self.holds(one, other, [doc] + neighbours(doc))


class Great(SameCase):
    def test_nearly_a_thousand_parts(self):
        rows = [("has", (number,) + (20,) * 11) for number in range(4)]
        told, unlike = self.holds(rows, rows[:3], [])
        self.assertEqual(parts(told[0]), 697)
        self.assertIs(unlike, None)
        told, unlike = self.holds(rows + [("is", (3,) + (20,) * 11, "row")], rows, [])
        self.assertEqual(parts(told[0]), 929)
        empty = [("is", (3,) + (20,) * 11, "row"), ("change", (3,) + (20,) * 11, [])]
        told, unlike = self.holds(rows[:3] + empty, rows[:3] + empty[:1], [])
        self.assertEqual((parts(told[0]), parts(unlike[0])), (930, 930))

    def test_forty_rows_with_three_copies(self):
        value = [[number] for number in range(99)]
        copies = [("copy", (), (0,))] * 3
        puts = [("put", (0,), value)] * 35
        end = [("put", (20, 0), 5), ("put", (20, 0), 6)]
        one, other = copies + puts + end, copies + puts + [("put", (20, 0), 6), ("put", (20, 1), 5)]
        self.assertEqual(self.holds(one, other, []), (None, None))
        told, unlike = self.holds(one, copies + puts + end[::-1], [])
        self.assertEqual((parts(told[0]), parts(unlike[0])), (1, 1))

    def test_many_open_tables(self):
        names = [first + second for first in "abcdefghijklmnop" for second in "xyz"]
        rows = [("has", (name,) * 11) for name in names[:39]]
        told, unlike = self.holds(rows, rows + [("lacks", (names[38],) * 10 + ("q",))], [])
        self.assertEqual(parts(told[0]), 39 * 11 + 2)
        self.assertIs(unlike, None)


class Newness(SameCase):
    CALLS = (parted_by, disagree_by)

    def test_what_is_told_is_new(self):
        shared = [[1], {"y": [1]}]
        pairs = [([("ask", (0,), shared), ("put", (1,), shared)], [("ask", (0,), shared), ("copy", (0,), (1,)), ("take", (0,))]),
                 ([("ask", (), [shared, shared])], [("ask", (), [shared, 5])])]
        for one, other in pairs + [pair[:2] for pair in UNLIKE]:
            for function in self.CALLS + (same, agree):
                self.is_new(function, one, other)

    def is_new(self, function, one, other):
        def told(rows, others):
            return function(Patch(rows), Patch(others))
        is_new_through_and_through(self, told, [one, other])

    def test_patches_stay_as_they_are(self):
        for one, other, size, both in UNLIKE:
            first, second = Patch(one), Patch(other)
            for function in self.CALLS:
                told = function(first, second)
                spoil_all(function(first, second))
                self.told(function(first, second), told)
            self.told(first.rows(), one)
            self.told(second.rows(), other)


if __name__ == "__main__":
    unittest.main()
