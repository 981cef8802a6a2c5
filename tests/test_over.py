"""Rows that were made apart: [8.3], [8.4]."""

import itertools
import random
import unittest

from cases import Case
from patchbough.errors import BoughError, Clash
from patchbough.over import clashes, over
from patchbough.shifts import bars, comes_to, gone_by, moved_by, needs, reads
from reckoned import WORDS, blind_row, by_hand, fits, rows_about
from samples import is_new_through_and_through, nested, twin

# For each of the six reasons rows that clash by it alone, and rows near them that don't clash.
REASONS = {
    1: (
        (("take", ("a",)), ("has", ("a",)), True), (("take", ("a",)), ("has", ("a", 0)), True),
        (("take", ("a",)), ("has", ()), False), (("take", ("a",)), ("has", ("b",)), False),
        (("take", ("a",)), ("take", ("a",)), True), (("take", ("a", 0)), ("take", ("a", 1)), False),
        (("take", ("a",)), ("change", ("a", 0), 5), True), (("change", ("a",), 5), ("change", ("a",), 5), True),
        (("change", ("a",), 5), ("has", ("a",)), True), (("change", ("a", 0), 5), ("has", ("a",)), False),
        (("take", ("a",)), ("put", ("a", 0), 5), True), (("take", ("a", 0)), ("put", ("a", 0), 5), False),
        (("take", ("a",)), ("is", ("a",), "row"), True), (("take", ("a",)), ("move", ("a", 0), ("b",)), True),
        (("take", ("a",)), ("move", ("b",), ("a", 0)), True), (("take", ("a",)), ("lacks", ("a", "b")), True),
        (("take", ("a",)), ("copy", ("b",), ("a", 0)), True), (("take", (0,)), ("move", (1,), (0,)), False),
        (("take", (1,)), ("move", (1,), (3,)), True), (("take", (1, 0)), ("move", (1,), (3,)), False),
        (("take", (1,)), ("move", (0,), (0, 0)), True), (("take", (0,)), ("move", (1,), (0, 0)), True),
        (("change", (), 5), ("has", ()), True), (("change", (), 5), ("put", (0,), 5), True),
    ),
    2: (
        (("ask", ("a",), 5), ("take", ("a", 0)), True), (("ask", ("a",), 5), ("change", ("a", 0), 5), True),
        (("ask", ("a", 0), 5), ("take", ("a", 1)), False), (("copy", ("a",), ("b",)), ("take", ("a", 0)), True),
        (("ask", ("a",), 5), ("move", ("a", 0), ("b",)), True), (("ask", ("a",), 5), ("move", ("a",), ("b",)), False),
        (("copy", ("a",), ("b",)), ("move", ("a", 0), ("c",)), True),
        (("copy", ("a",), ("b",)), ("move", ("a",), ("c",)), False),
        (("ask", ("a", 0), 5), ("move", ("a",), ("b",)), False),
        (("ask", ("a",), 5), ("put", ("a", 0), 5), True), (("ask", ("a",), 5), ("put", ("b", 0), 5), False),
        (("ask", ("a",), 5), ("copy", ("b",), ("a", "c", 0)), True), (("ask", ("a", 0), 5), ("put", ("a", 0), 5), False),
        (("ask", (), 5), ("put", (0,), 5), True), (("ask", ("a",), 5), ("put", ("b",), 5), False),
        (("copy", (), ("a",)), ("copy", (), ("b",)), True), (("copy", ("a",), ("b",)), ("copy", ("a",), ("c",)), False),
        (("ask", (), 5), ("ask", (), 6), False), (("ask", (), 5), ("has", ("a",)), False),
        (("ask", (1,), 5), ("move", (0,), (0, 0)), True), (("ask", (0,), 5), ("move", (0,), (0, 0)), False),
        (("ask", ("a",), 5), ("move", ("b",), ("a", 0)), True),
    ),
    3: (
        (("put", ("a",), 5), ("put", ("a",), 5), True), (("put", ("a",), 5), ("put", ("b",), 5), False),
        (("put", ("a",), 5), ("lacks", ("a",)), True), (("lacks", ("a",)), ("lacks", ("a",)), False),
        (("put", ("a",), 5), ("lacks", ("b",)), False), (("put", ("a",), 5), ("put", ("b", "a"), 5), False),
        (("put", ("a",), 5), ("copy", ("b",), ("a",)), True), (("copy", ("b",), ("a",)), ("copy", ("c",), ("a",)), True),
        (("move", ("b",), ("a",)), ("lacks", ("a",)), True), (("move", ("b",), ("a",)), ("move", ("c",), ("a",)), True),
        (("put", (0,), 5), ("put", (0,), 5), False), (("copy", (1,), (0,)), ("move", (1,), (0,)), False),
        (("move", (0,), (0, "a")), ("put", (1, "a"), 5), True), (("move", (0,), (0, "a")), ("put", (0, "a"), 5), False),
    ),
    4: (
        (("put", ("a",), 5), ("has", ("a",)), True), (("put", ("a",), 5), ("has", ("a", 0)), True),
        (("put", ("a",), 5), ("has", ()), False), (("put", ("a",), 5), ("has", ("b", "a")), False),
        (("lacks", ("a",)), ("has", ("a",)), True), (("lacks", ("a",)), ("lacks", ("a", "b")), True),
        (("lacks", ("a",)), ("move", ("a",), ("b",)), True), (("copy", ("b",), ("a",)), ("is", ("a",), "row"), True),
        (("move", ("b",), ("a",)), ("put", ("a", 0), 5), True), (("put", (0,), 5), ("has", (0,)), False),
        (("lacks", ("a",)), ("take", ("a",)), True), (("lacks", ("a", "b")), ("has", ("a",)), False),
        (("move", ("a",), ("a",)), ("has", ("b",)), False),
    ),
    5: (
        (("move", (0,), (1,)), ("move", (0,), (2,)), True), (("move", (0,), (1,)), ("move", (1,), (0,)), False),
        (("move", ("a",), ("b",)), ("move", ("a",), ("c",)), True),
        (("move", ("a", 0), ("b",)), ("move", ("a",), ("c",)), False),
    ),
    6: (
        (("move", ("a",), ("b", "c")), ("move", ("b",), ("a", "c")), True),
        (("move", ("a",), ("b", "c")), ("move", ("b",), ("d",)), False),
        (("move", ("a",), ("c",)), ("move", ("b",), ("a", "c")), False),
        (("move", (0,), (0, 0)), ("move", (1,), (0, 0)), True), (("move", (0,), (1, 0)), ("move", (1,), (0, 0)), False),
        (("move", (0,), (0, 0, 3)), ("move", (1,), (0, 2, 0)), True),
    ),
}

# A row, another one, and the first as it is counted behind the other: as the first, and as not the first.
TOLD = (
    (("put", (1,), [5]), ("take", (0,)), ("put", (0,), [5]), None),
    (("put", (1,), [5]), ("take", (1,)), ("put", (1,), [5]), None),
    (("put", (1,), [5]), ("take", (2,)), ("put", (1,), [5]), None),
    (("put", (1,), [5]), ("put", (0,), 6), ("put", (2,), [5]), None),
    (("put", (1,), [5]), ("put", (1,), 6), ("put", (1,), [5]), ("put", (2,), [5])),
    (("put", (1,), [5]), ("put", (2,), 6), ("put", (1,), [5]), None),
    (("put", (1,), [5]), ("copy", (3,), (1,)), ("put", (1,), [5]), ("put", (2,), [5])),
    (("put", (1,), [5]), ("move", (3,), (1,)), ("put", (1,), [5]), ("put", (2,), [5])),
    (("put", (2,), [5]), ("move", (0,), (1,)), ("put", (1,), [5]), ("put", (2,), [5])),
    (("put", (2,), [5]), ("move", (0,), (2,)), ("put", (1,), [5]), None),
    (("put", (2,), [5]), ("move", (4,), (0,)), ("put", (3,), [5]), None),
    (("put", (2,), [5]), ("change", (0,), 6), ("put", (2,), [5]), None),
    (("put", (2, "a"), [5]), ("take", (0,)), ("put", (1, "a"), [5]), None),
    (("put", (2, 0), [5]), ("put", (2,), 6), ("put", (3, 0), [5]), None),
    (("put", ("a", 0), [5]), ("move", ("a",), ("b", 3)), ("put", ("b", 3, 0), [5]), None),
    (("put", ("a",), [5]), ("put", ("b",), 6), ("put", ("a",), [5]), None),
    (("take", (1,)), ("put", (1,), 6), ("take", (2,)), None),
    (("take", (1,)), ("put", (2,), 6), ("take", (1,)), None),
    (("take", (1,)), ("take", (0,)), ("take", (0,)), None),
    (("take", (1,)), ("move", (0,), (3,)), ("take", (0,)), None),
    (("take", (1, "a")), ("move", (1,), ("b",)), ("take", ("b", "a")), None),
    (("change", (1,), [5]), ("move", (0,), (1,)), ("change", (0,), [5]), None),
    (("change", ("a", 1), [5]), ("move", ("a",), ("b",)), ("change", ("b", 1), [5]), None),
    (("has", (1, 2)), ("put", (1, 1), 5), ("has", (1, 3)), None),
    (("is", (1, 2), "row"), ("put", (0,), 5), ("is", (2, 2), "row"), None),
    (("ask", (1,), {"a": [5]}), ("put", (1,), 5), ("ask", (2,), {"a": [5]}), None),
    (("ask", (1,), 5), ("move", (1,), (0,)), ("ask", (0,), 5), None),
    (("lacks", (1, "a")), ("take", (0,)), ("lacks", (0, "a")), None),
    (("lacks", ("b", "a")), ("move", ("b",), ("a",)), ("lacks", ("a", "a")), None),
    (("lacks", ("a",)), ("put", ("b",), 5), ("lacks", ("a",)), None),
    (("copy", (2,), (1,)), ("put", (1,), 5), ("copy", (3,), (1,)), ("copy", (3,), (2,))),
    (("copy", (2,), (1,)), ("take", (0,)), ("copy", (1,), (0,)), None),
    (("copy", (2,), (1, "a")), ("move", (1,), (0,)), ("copy", (2,), (0, "a")), None),
    (("copy", ("a",), ("b",)), ("move", ("a",), ("c",)), ("copy", ("c",), ("b",)), None),
    # A move's to is counted again in what is left behind its own taking.
    (("move", (0,), (2,)), ("take", (1,)), ("move", (0,), (1,)), None),
    (("move", (0,), (2,)), ("put", (0,), 5), ("move", (1,), (3,)), None),
    (("move", (0,), (2,)), ("put", (3,), 5), ("move", (0,), (2,)), ("move", (0,), (3,))),
    (("move", (0,), (2,)), ("put", (2,), 5), ("move", (0,), (3,)), None),
    (("move", (0,), (2,)), ("put", (1,), 5), ("move", (0,), (3,)), None),
    (("move", (2,), (0,)), ("take", (1,)), ("move", (1,), (0,)), None),
    (("move", (2,), (0,)), ("put", (0,), 5), ("move", (3,), (0,)), ("move", (3,), (1,))),
    (("move", (2,), (0,)), ("put", (2,), 5), ("move", (3,), (0,)), None),
    (("move", (1,), (1,)), ("put", (1,), 5), ("move", (2,), (1,)), ("move", (2,), (2,))),
    (("move", (1,), (1,)), ("put", (2,), 5), ("move", (1,), (1,)), None),
    (("move", (0,), (0, 1)), ("take", (1, 0)), ("move", (0,), (0, 0)), None),
    (("move", (0,), (0, 1)), ("put", (1,), 5), ("move", (0,), (1, 1)), None),
    (("move", (0,), (0, 1)), ("put", (0,), 5), ("move", (1,), (1, 1)), None),
    (("move", (0,), (0, 1)), ("move", (1,), (0,)), ("move", (1,), (0, 1)), None),
    (("move", (0,), ("a",)), ("put", (0,), 5), ("move", (1,), ("a",)), None),
    (("move", ("a", 0), ("a", 3)), ("move", ("a",), ("b",)), ("move", ("b", 0), ("b", 3)), None),
    (("move", ("a",), ("b",)), ("move", ("c",), ("a", "d")), ("move", ("a",), ("b",)), None),
    (("move", ("a",), ("b", "x")), ("move", ("b",), ("c",)), ("move", ("a",), ("c", "x")), None),
    (("move", (0,), (3,)), ("move", (1,), (2,)), ("move", (0,), (3,)), None),
    (("move", (0,), (3,)), ("move", (3,), (0,)), ("move", (1,), (3,)), None),
    (("move", (3,), (0,)), ("move", (0,), (3,)), ("move", (2,), (0,)), None),
    (("move", (0,), (2,)), ("move", (1,), (2,)), ("move", (0,), (1,)), ("move", (0,), (2,))),
)

# Told rows that have more steps, or a greater place, than a row of a patch may have.
BEYOND = (
    (("put", (20,), 5), ("put", (0,), 6), ("put", (21,), 5)),
    (("has", (20,)), ("put", (0,), 6), ("has", (21,))),
    (("move", (0,), (20,)), ("put", (1,), 6), ("move", (0,), (21,))),
    (("has", ("a",) * 12), ("move", ("a",), ("b", "c")), ("has", ("b", "c") + ("a",) * 11)),
    (("lacks", ("a",) * 12), ("move", ("a",), ("b", "c")), ("lacks", ("b", "c") + ("a",) * 11)),
    (("put", ("a",) * 11 + (20,), 5), ("move", ("a",), ("b",) * 12), ("put", ("b",) * 12 + ("a",) * 10 + (20,), 5)),
)


def begins(one, other):
    return one is not None and other is not None and one == other[:len(one)]


def reasons_one_way(a, b):
    """The numbers of the reasons for which two rows clash, as the document has them, not changed about."""
    coming_a, coming_b = (comes_to(row)[0] if comes_to(row) is not None else None for row in (a, b))
    told = set()
    if any(begins(gone_by(a), need) for need in needs(b)):
        told.add(1)
    if begins(reads(a), gone_by(b)) or (begins(reads(a), moved_by(b)) and reads(a) != moved_by(b)) \
            or begins(reads(a), coming_b):
        told.add(2)
    if bars(a) is not None and bars(a) == bars(b) and a[0] != "lacks":
        told.add(3)
    if bars(a) is not None and any(begins(bars(a)[0] + (bars(a)[1],), need) for need in needs(b)):
        told.add(4)
    if moved_by(a) is not None and moved_by(a) == moved_by(b):
        told.add(5)
    if begins(moved_by(a), coming_b) and begins(moved_by(b), coming_a):
        told.add(6)
    return told


def reasons(a, b):
    return reasons_one_way(a, b) | reasons_one_way(b, a)


class OverCase(Case):
    def refused_over(self, one, other):
        before = twin((one, other))
        for first in (True, False):
            with self.assertRaises(Clash) as caught:
                over(one, other, first)
            self.told((caught.exception.at, caught.exception.other), (0, 0))
            self.assertIsInstance(caught.exception, BoughError)
        self.told((one, other), before)


class Clashing(OverCase):
    def test_each_reason(self):
        for number, pairs in REASONS.items():
            seen = 0
            for one, other, clash in pairs:
                with self.subTest(reason=number, one=one, other=other):
                    self.told(clashes(one, other), clash)
                    self.told(clashes(other, one), clash)
                    self.assertEqual(number in reasons(one, other), clash)
                    seen += reasons(one, other) == {number}
                    if clash:
                        self.refused_over(one, other)
                        self.refused_over(other, one)
                    else:
                        self.assertEqual(over(one, other, True)[0], one[0])
                        self.assertEqual(over(other, one, False)[0], other[0])
            self.assertGreater(seen, 0, number)

    def test_blind_rows(self):
        chance = random.Random(8)
        seen = {}
        for number in range(30000):
            one, other = blind_row(chance, WORDS), blind_row(chance, WORDS)
            found = reasons(one, other)
            self.assertIs(clashes(one, other), bool(found), (one, other))
            for reason in found if len(found) == 1 else ():
                seen[reason] = seen.get(reason, 0) + 1
        self.assertEqual(set(seen), {1, 2, 3, 4, 5, 6})

    def test_refused_where_they_clash_alone(self):
        chance = random.Random(9)
        for number in range(1500):
            one, other = blind_row(chance, WORDS), blind_row(chance, WORDS)
            if clashes(one, other):
                self.refused_over(one, other)
            else:
                over(one, other, True)
                over(one, other, False)


class Over(OverCase):
    def test_told_out(self):
        for one, other, first, second in TOLD:
            with self.subTest(one=one, other=other):
                self.told(over(one, other, True), first)
                self.told(over(one, other, False), first if second is None else second)

    def test_more_than_a_row_of_a_patch_may_have(self):
        for one, other, told in BEYOND:
            with self.subTest(one=one, other=other):
                self.told(over(one, other, True), told)
                self.told(over(one, other, False), told)
                # And what was told is counted on behind other rows.
                self.told(over(told, ("has", ()), True), told)

    def test_the_first_stands_ahead(self):
        one, other = ("put", (1,), "one"), ("put", (1,), "two")
        doc = [0, 1]
        for first in (True, False):
            behind = by_hand(over(one, other, first), by_hand(other, doc))
            self.told(behind, [0, "one", "two", 1] if first else [0, "two", "one", 1])
            self.told(by_hand(over(other, one, not first), by_hand(one, doc)), behind)

    def both_ways_round(self, one, other, doc):
        """Both ways round, with either one as the first, make the same of a document that both fit."""
        for first in (True, False):
            ahead = by_hand(over(other, one, not first), by_hand(one, doc))
            behind = by_hand(over(one, other, first), by_hand(other, doc))
            self.told(behind, ahead)

    def test_each_word_over_each(self):
        seen = {}
        docs = [{"a": [5, {"b": 6}], "c": 7}, [[1, 2], {"a": 3}, []], {"a": {"a": {}, "b": [1]}, "b": [[2]]}]
        for doc in docs:
            rows = [row for row in rows_about(doc, [8]) if fits(row, doc)]
            for one, other in itertools.product(rows, rows):
                words = (one[0], other[0])
                if clashes(one, other) or seen.get(words, 0) >= 60 * (1 + docs.index(doc)):
                    continue
                seen[words] = seen.get(words, 0) + 1
                self.both_ways_round(one, other, doc)
        self.assertEqual(set(seen), set(itertools.product(WORDS, WORDS)))

    def test_rows_within_rows(self):
        doc = [[1, [2, 3]], 4, [5, 6]]
        rows = [row for row in rows_about(doc, "x") if fits(row, doc) and row[0] in ("move", "put", "take", "copy")]
        chance = random.Random(10)
        seen = 0
        for number in range(6000):
            one, other = chance.choice(rows), chance.choice(rows)
            if not clashes(one, other):
                self.both_ways_round(one, other, doc)
                seen += 1
        self.assertGreater(seen, 2000)

    def test_the_same_word_and_value(self):
        chance = random.Random(12)
        for number in range(3000):
            one, other = blind_row(chance, WORDS), blind_row(chance, WORDS)
            if not clashes(one, other):
                told = over(one, other, chance.random() < 0.5)
                self.assertIs(type(told), tuple)
                self.assertEqual((told[0], len(told)), (one[0], len(one)))
                if one[0] in ("put", "change", "ask", "is"):
                    self.told(told[2], one[2])


class Newness(OverCase):
    def test_what_is_told_is_new(self):
        shared = [[1], {"a": [1]}]
        value = [shared, shared]
        for one in (("put", (0,), value), ("change", (0,), value), ("ask", (0,), value), ("take", (0,)), ("has", (0,)),
                    ("lacks", (0, "a")), ("is", (0,), "row"), ("move", (0,), (1,)), ("copy", (0,), (1,))):
            for other in (("put", (0,), value), ("has", ()), ("change", (3,), value), ("take", (4,))):
                for first in (True, False):
                    is_new_through_and_through(self, over, [one, other, first])
                is_new_through_and_through(self, clashes, [one, other])


if __name__ == "__main__":
    unittest.main()
