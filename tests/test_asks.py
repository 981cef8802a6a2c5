"""Asks: [4.1], [4.2], [4.3], [4.4]."""

import random
import unittest

from askings import JUSTS, is_good, lets, near_docs, small_docs, some_asks, told_paths, wild_asks
from cases import Case
from patchbough.asks import asks_at, both_of, good_form, lets_in, within
from patchbough.edits import put_at
from samples import is_new_through_and_through, nested, stays_as_it_was, twin

ANY = ("any",)
DOCS = small_docs()


def many_asks(count, depth):
    chance = random.Random(count * 100 + depth)
    return some_asks() + [wild_asks(chance, depth) for number in range(count)]


def deep_asks(levels, bottom):
    """Rows and tables of asks in turn, so many deep, around what stands at the bottom."""
    asks = bottom
    for level in range(levels):
        asks = ("row", [asks], level % 3 == 0) if level % 2 else ("table", {"a": asks}, [], level % 3 == 0)
    return asks


class LettingIn(Case):
    def test_any(self):
        for doc in nested() + DOCS:
            self.told(lets_in(ANY, doc), True)

    def test_just(self):
        for doc in nested():
            for other in nested():
                self.told(lets_in(("just", doc), other), repr(doc) == repr(other))
        self.told(lets_in(("just", {"a": 1, "b": 2}), {"b": 2, "a": 1}), True)

    def test_rows(self):
        asks = ("row", [ANY, ("just", 5)], False)
        for doc, told in (([1, 5], True), ([[], 5], True), ([1, 6], False), ([1], False), ([], False), ([1, 5, 2], False),
                          ({"a": 1}, False), (5, False), ("x", False), ([5, 1], False), ({}, False)):
            self.told(lets_in(asks, doc), told)
        asks = ("row", [ANY, ("just", 5)], True)
        for doc, told in (([1, 5], True), ([1, 5, 2], True), ([1, 5, [], {}, "x"], True), ([1], False), ([], False),
                          ([1, 6, 5], False), ({}, False), (5, False), ("", False)):
            self.told(lets_in(asks, doc), told)

    def test_tables(self):
        for more in (True, False):
            asks = ("table", {"a": ANY, "b": ("just", 5)}, ["c"], more)
            for doc, told in (({"a": 1, "b": 5}, True), ({"b": 5, "a": {}}, True), ({"a": 1, "b": 6}, False),
                              ({"a": 1}, False), ({"b": 5}, False), ({}, False), ({"a": 1, "b": 5, "c": 1}, False),
                              ({"a": 1, "b": 5, "d": 1}, more), ({"a": 1, "b": 5, "c": 1, "d": 1}, False), ([], False),
                              (["a", "b"], False), ("a", False), (5, False)):
                self.told(lets_in(asks, doc), told)

    def test_each_of_small_documents(self):
        for asks in many_asks(150, 3):
            for doc in DOCS:
                self.told(lets_in(asks, doc), lets(asks, doc))

    def test_some_document_is_let_in_by_each(self):
        for asks in some_asks():
            self.assertTrue(any(lets_in(asks, doc) for doc in DOCS + [[[], []], {"a": [], "b": {}}, [[[5]]]] + [
                {"a": [5], "b": {"a": 5}}]))

    def test_deep(self):
        for levels in (19, 20, 60, 400):
            doc, other, asks = 5, 6, deep_asks(levels, ("just", 5))
            for level in range(levels):
                doc, other = ([doc], [other]) if level % 2 else ({"a": doc}, {"a": other})
            self.told(lets_in(asks, doc), True)
            self.told(lets_in(asks, other), False)
            self.told(lets_in(("just", doc), doc), True)
            self.told(lets_in(("just", doc), other), False)
            self.told(lets_in(deep_asks(levels, ANY), other), True)


class GoodForm(Case):
    def test_the_examples(self):
        self.told(good_form(("row", [("just", 5)], False)), ("just", [5]))
        self.told(good_form(("row", [], False)), ("just", []))
        self.told(good_form(("row", [], True)), ("row", [], True))

    def test_written_out(self):
        for asks, told in ((ANY, ANY), (("just", [5]), ("just", [5])), (("table", {}, [], False), ("just", {})),
                           (("table", {}, ["a"], False), ("just", {})), (("table", {}, [], True), ("table", {}, [], True)),
                           (("table", {}, ["a", "b"], True), ("table", {}, ["a", "b"], True)),
                           (("row", [("just", 5)], True), ("row", [("just", 5)], True)),
                           (("row", [ANY], False), ("row", [ANY], False)),
                           (("table", {"a": ("just", 5), "b": ("just", [])}, ["c"], False), ("just", {"a": 5, "b": []})),
                           (("table", {"a": ("just", 5)}, ["c"], True), ("table", {"a": ("just", 5)}, ["c"], True)),
                           (("table", {"a": ANY}, ["b"], False), ("table", {"a": ANY}, [], False)),
                           (("row", [ANY, ("row", [("just", 5)], False)], False), ("row", [ANY, ("just", [5])], False)),
                           (("row", [("row", [("row", [], False)], False)], False), ("just", [[[]]])),
                           (("row", [("row", [("row", [], True)], False)], False),
                            ("row", [("row", [("row", [], True)], False)], False)),
                           (("table", {"a": ("table", {}, ["x"], False), "b": ("row", [("just", {})], False)}, [], False),
                            ("just", {"a": {}, "b": [{}]}))):
            self.told(good_form(asks), told)

    def test_good_form_lets_in_the_same(self):
        for asks in many_asks(300, 4):
            told = good_form(asks)
            self.assertTrue(is_good(told), told)
            for doc in DOCS[::3]:
                self.told(lets(told, doc), lets(asks, doc))

    def test_what_is_in_good_form_stays(self):
        for asks in many_asks(300, 4):
            told = good_form(asks)
            self.told(good_form(told), told)
            if is_good(asks):
                self.told(told, asks)

    def test_equal_just_where_they_let_in_the_same(self):
        seen = many_asks(200, 3)
        near = [near_docs(asks) for asks in seen]
        told = [good_form(asks) for asks in seen]
        equals = 0
        for number, one in enumerate(seen):
            for other in range(number):
                same = all(lets(seen[other], doc) for doc in near[number]) and all(lets(one, doc) for doc in near[other])
                self.told(told[number] == told[other], same)
                equals += same
        self.assertGreater(equals, 100)

    def test_deep(self):
        told = good_form(deep_asks(300, ("row", [("just", 5)], False)))
        levels = 0
        while told[0] != "just":
            told = told[1][0] if told[0] == "row" else told[1]["a"]
            levels += 1
        self.assertEqual(levels, 300)
        self.told(told, ("just", [5]))
        closed = ("just", 5)
        for level in range(300):
            closed = ("row", [closed], False)
        self.assertEqual(good_form(closed)[0], "just")


class BothOf(Case):
    def test_nothing_is_let_in_by_both(self):
        for one, other in ((("just", 5), ("just", 6)), (("just", 5), ("just", "x")), (("just", []), ("just", {})),
                           (("just", 5), ("row", [], True)), (("just", [5]), ("row", [ANY, ANY], True)),
                           (("row", [], True), ("table", {}, [], True)), (("row", [ANY], False), ("row", [], False)),
                           (("row", [ANY], False), ("row", [ANY, ANY], True)),
                           (("row", [("just", 5)], True), ("row", [("just", 6)], True)),
                           (("table", {"a": ANY}, [], True), ("table", {}, ["a"], True)),
                           (("table", {"a": ANY}, [], True), ("table", {"b": ANY}, [], False)),
                           (("table", {"a": ANY}, [], True), ("table", {}, [], False)),
                           (("table", {"a": ANY}, [], True), ("table", {}, ["a"], False)),
                           (("table", {"a": ("just", 5)}, [], True), ("table", {"a": ("row", [], True)}, [], True)),
                           (("table", {"a": ANY}, ["b"], True), ("just", {"a": 5, "b": 6})),
                           (("row", [("row", [ANY], True)], True), ("row", [("table", {}, [], True)], True)),
                           (("row", [ANY, ("table", {"a": ("just", 5)}, [], True)], True),
                            ("row", [ANY, ("table", {"a": ("just", 6)}, [], True)], False))):
            self.assertIs(both_of(one, other), None)
            self.assertIs(both_of(other, one), None)

    def test_written_out(self):
        for one, other, told in (
                (ANY, ANY, ANY), (ANY, ("just", 5), ("just", 5)), (("just", [5]), ("row", [ANY], True), ("just", [5])),
                (ANY, ("row", [("just", 5)], False), ("just", [5])),
                (("row", [ANY], True), ("row", [ANY, ("just", 5)], True), ("row", [ANY, ("just", 5)], True)),
                (("row", [ANY], True), ("row", [ANY, ANY], False), ("row", [ANY, ANY], False)),
                (("row", [("just", 5)], True), ("row", [ANY, ("just", 6)], False), ("just", [5, 6])),
                (("row", [], True), ("row", [], False), ("just", [])),
                (("table", {"a": ANY}, ["b"], True), ("table", {"c": ("just", 5)}, ["d"], True),
                 ("table", {"a": ANY, "c": ("just", 5)}, ["b", "d"], True)),
                (("table", {}, ["b", "d"], True), ("table", {}, ["a", "c", "d"], True),
                 ("table", {}, ["a", "b", "c", "d"], True)),
                (("table", {}, ["b"], True), ("table", {"a": ANY}, [], False), ("table", {"a": ANY}, [], False)),
                (("table", {"a": ("just", 5)}, ["b"], True), ("table", {"a": ANY}, [], False), ("just", {"a": 5})),
                (("row", [("row", [("just", 5)], True)], True), ("row", [("row", [ANY, ("just", 6)], False)], False),
                 ("just", [[5, 6]])),
                (("row", [("table", {"a": ANY}, [], True)], True), ("row", [ANY, ("row", [], True)], True),
                 ("row", [("table", {"a": ANY}, [], True), ("row", [], True)], True))):
            self.told(both_of(one, other), told)
            self.told(both_of(other, one), told)

    def test_all_pairs(self):
        seen = many_asks(60, 3)
        let_in = [[lets(asks, doc) for doc in DOCS] for asks in seen]
        for number, one in enumerate(seen):
            for place, other in enumerate(seen):
                told = both_of(one, other)
                together = [a and b for a, b in zip(let_in[number], let_in[place])]
                if told is None:
                    self.assertFalse(any(together))
                    continue
                self.assertTrue(is_good(told))
                self.assertEqual(sum(together), sum(lets(told, doc) for doc, here in zip(DOCS, together) if here))
                self.assertFalse(any(lets(told, doc) for doc, here in zip(DOCS[::5], together[::5]) if not here))

    def test_one_way_round_and_the_other(self):
        seen = many_asks(80, 4)
        for one in seen:
            self.told(both_of(one, one), good_form(one))
            self.told(both_of(one, ANY), good_form(one))
            self.told(both_of(ANY, one), good_form(one))
            for other in seen[::3]:
                self.told(both_of(one, other), both_of(other, one))

    def test_deep(self):
        for levels in (20, 300, 2000):
            one, other = deep_asks(levels, ANY), deep_asks(levels, ("just", 5))
            self.assertIs(both_of(other, deep_asks(levels, ("just", 6))), None)
            self.told(within(other, one), True)
            self.told(within(one, other), False)
            self.told(within(both_of(one, other), other), True)
            self.told(within(other, both_of(one, other)), True)


class Within(Case):
    def test_written_out(self):
        for one, other, told in (
                (ANY, ANY, True), (("just", 5), ANY, True), (ANY, ("just", 5), False), (("just", 5), ("just", 5), True),
                (("just", 5), ("just", 6), False), (("row", [ANY], False), ("row", [], True), True),
                (("row", [], True), ("row", [ANY], True), False), (("row", [ANY, ANY], True), ("row", [ANY], True), True),
                (("row", [ANY], True), ("row", [ANY], False), False), (("row", [], False), ("just", []), True),
                (("just", [5]), ("row", [("just", 5)], False), True), (("row", [], True), ANY, True),
                (ANY, ("row", [], True), False), (("row", [], True), ("table", {}, [], True), False),
                (("table", {"a": ANY}, [], False), ("table", {}, ["b"], True), True),
                (("table", {"a": ANY}, [], True), ("table", {}, ["b"], True), False),
                (("table", {}, ["a", "b"], True), ("table", {}, ["b"], True), True),
                (("table", {}, ["b"], True), ("table", {}, ["a", "b"], True), False),
                (("table", {"a": ("just", 5)}, [], True), ("table", {"a": ANY}, [], True), True),
                (("table", {"a": ANY}, [], True), ("table", {"a": ("just", 5)}, [], True), False),
                (("table", {}, ["b"], False), ("table", {}, ["c"], False), True),
                (("table", {"a": ANY}, ["c"], False), ("table", {"a": ANY}, ["b"], False), True),
                (("row", [("row", [ANY], True)], False), ("row", [("row", [], True)], True), True)):
            self.told(within(one, other), told)

    def test_all_pairs(self):
        seen = many_asks(150, 3)
        for one in seen:
            near = near_docs(one)
            for other in seen:
                self.told(within(one, other), all(lets(other, doc) for doc in near))

    def test_what_both_let_in_is_within_each(self):
        seen = many_asks(100, 4)
        for one in seen:
            for other in seen[::4]:
                both = both_of(one, other)
                if both is not None:
                    self.told(within(both, one), True)
                    self.told(within(both, other), True)
                    self.told(within(one, other), both == good_form(one))


class AsksAt(Case):
    def test_the_whole(self):
        for asks in many_asks(50, 4):
            self.told(asks_at(asks, ()), good_form(asks))

    def test_each_told_path(self):
        for asks in many_asks(150, 4):
            for path, told in told_paths(asks):
                self.told(asks_at(asks, path), good_form(told))
                self.told(asks_at(good_form(asks), path), good_form(told))

    def test_nothing_is_told(self):
        for asks in many_asks(150, 4):
            paths = {path for path, told in told_paths(asks)}
            for path in paths:
                for step in (0, 1, 2, 3, 20, 10 ** 30, "a", "b", "c", "d", "abcdefgh"):
                    if path + (step,) not in paths:
                        self.assertIs(asks_at(asks, path + (step,)), None)
                        self.assertIs(asks_at(asks, path + (step, 0)), None)
                        self.assertIs(asks_at(asks, path + (step, "a")), None)

    def test_into_a_just(self):
        asks = ("row", [ANY, ("just", [7, {"a": [8]}])], True)
        for path, told in (((1, 0), ("just", 7)), ((1, 1), ("just", {"a": [8]})), ((1, 1, "a"), ("just", [8])),
                           ((1, 1, "a", 0), ("just", 8))):
            self.told(asks_at(asks, path), told)
        for path in ((1, 2), (1, "a"), (1, 0, 0), (1, 1, 0), (1, 1, "b"), (1, 1, "a", 1), (1, 1, "a", 0, 0), (0, 0),
                     (0, "a"), (2,), ("a",), (1, 1, "a", "a")):
            self.assertIs(asks_at(asks, path), None)
        for doc in JUSTS:
            self.told(asks_at(("just", doc), ()), ("just", doc))

    def test_a_name_that_is_lacking(self):
        asks = ("table", {"a": ("row", [("just", 5)], False)}, ["b"], True)
        self.told(asks_at(asks, ("a",)), ("just", [5]))
        self.told(asks_at(asks, ("a", 0)), ("just", 5))
        for path in (("b",), ("c",), (0,), ("a", 1), ("a", "a")):
            self.assertIs(asks_at(asks, path), None)


class Newness(Case):
    def test_what_is_told_is_new(self):
        chance = random.Random(5)
        shared = [[5], {"a": [5]}]
        more = [("row", [("just", shared), ("just", shared), ("row", [("just", shared)], False)], True),
                ("table", {"a": ("just", shared), "b": ("just", shared)}, ["c"], False)]
        cells = [("just", shared), ANY]
        more.append(("row", [("row", cells, True), ("row", cells, True), ("row", cells, False)], False))
        for asks in some_asks() + more + [wild_asks(chance, 3) for number in range(20)]:
            is_new_through_and_through(self, good_form, [asks])
            for path, told in told_paths(asks):
                is_new_through_and_through(self, asks_at, [asks, path])
            for other in (ANY, asks, twin(asks), ("row", [ANY], True), ("table", {"a": ANY}, ["b"], True)):
                is_new_through_and_through(self, both_of, [asks, other])
                is_new_through_and_through(self, both_of, [other, asks])
                stays_as_it_was(self, within, [asks, other])
            for doc in DOCS[::40]:
                stays_as_it_was(self, lets_in, [asks, doc])

    def test_what_the_program_told_is_handed_in_again(self):
        doc = 5
        for level in range(150):
            doc = put_at([], (0,), doc)
        told = good_form(("row", [("just", doc), ANY], True))
        self.told(lets_in(told, [doc, 1, 2]), True)
        self.told(within(told, ("row", [], True)), True)


if __name__ == "__main__":
    unittest.main()
