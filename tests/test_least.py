"""The least documents that asks let in: [4.5], [4.6], [4.7], [4.8], and what they bear out of [4.3]."""

import random
import unittest

from askings import NAMES, lets, open_paths, plain_doc, room_paths, some_asks, told_paths, wild_asks
from cases import Case
from makings import all_leaves
from patchbough.asks import both_of, good_form, lets_in, within
from patchbough.least import least_size, roomier, sample
from samples import alike, is_new_through_and_through, nested, routes, stays_as_it_was, twin

ANY = ("any",)
AVOIDS = ([], [0, 1, 2, "a"], [[0, [3, {"a": 4}]], {"b": 1}, 2], [list(range(40)), -1, "x", ""], nested(),
          [{"a": {"b": {"c": [5]}}}, 5, 6, 7, 10 ** 59])


def many_asks(count, depth):
    chance = random.Random(count * 1000 + depth)
    told = some_asks() + [wild_asks(chance, depth) for number in range(count)]
    return told + [good_form(asks) for asks in told[-count:]]


def deep_asks(levels, more):
    """Asks so deep: rows and tables in turn around any, each with a cell or name besides."""
    asks = ANY
    for level in range(levels - 1):
        asks = ("row", [("just", level), asks], more) if level % 2 else ("table", {"a": asks, "b": ANY}, ["c"], more)
    return asks


def wide_asks():
    """Asks of a least size of a thousand: a row of tables of rows."""
    table = ("table", {"a": ("row", [ANY] * 3, True), "b": ("just", [1, [2]])}, ["c"], True)
    return ("row", [twin(table) for number in range(110)] + [ANY] * 9, True)


class Sizes(Case):
    def test_each_kind(self):
        for asks, size in ((ANY, 1), (("just", 5), 1), (("just", []), 1), (("just", [5, {"a": 5}]), 4),
                           (("row", [], True), 1), (("row", [], False), 1), (("row", [ANY, ANY], True), 3),
                           (("table", {}, ["a"], True), 1), (("table", {"a": ANY}, ["b"], False), 2),
                           (("table", {"a": ("just", [1, 2]), "b": ("row", [ANY], True)}, [], True), 6),
                           (("row", [("row", [("row", [], True)], True)], False), 3)):
            self.told(least_size(asks), size)

    def test_no_document_has_fewer(self):
        for asks in many_asks(200, 4):
            self.told(least_size(asks), len(routes(plain_doc(asks, iter(range(1000))))))
            self.told(least_size(good_form(asks)), least_size(asks))

    def test_deep_and_great(self):
        for more in (True, False):
            self.told(least_size(deep_asks(20, more)), 39)
        self.told(least_size(wide_asks()), 1000)
        self.told(least_size(("just", list(range(999)))), 1000)


class SampleCase(Case):
    def holds(self, asks, avoid, doc, more):
        """The document is as [4.6] tells, but for so many parts more."""
        self.assertTrue(lets(asks, doc))
        self.assertEqual(len(routes(doc)), least_size(asks) + more)
        told = told_paths(asks)
        parts = dict(routes(doc))
        free = [parts[path] for path, inner in told if inner[0] == "any"]
        free.extend(end for path, end in parts.items() if path not in dict(told))
        self.assertFalse([end for end in free if isinstance(end, (list, dict, bool))])
        fixed = all_leaves([inner[1] for path, inner in told if inner[0] == "just"] + avoid)
        self.assertEqual(len(set(free)), len(free))
        self.assertFalse(set(free) & set(fixed))


class Samples(SampleCase):
    def test_each_kind(self):
        for asks, doc in ((("just", [5, {"a": 6}]), [5, {"a": 6}]), (("row", [], True), []), (("row", [], False), []),
                          (("table", {}, ["a"], True), {}), (("row", [("just", 5), ("row", [], True)], True), [5, []]),
                          (("table", {"a": ("just", {})}, [], True), {"a": {}})):
            self.told(sample(asks, []), doc)
        self.holds(ANY, [], sample(ANY, []), 0)

    def test_wild_asks(self):
        for asks in many_asks(200, 4):
            for avoid in AVOIDS:
                self.holds(asks, avoid, sample(asks, avoid), 0)

    def test_leaves_of_the_justs(self):
        for leaf in list(range(12)) + [-1, "", "a", "b"]:
            asks = ("row", [ANY, ("just", {"a": [leaf]}), ANY, ("table", {"b": ("just", leaf), "c": ANY}, [], True)], True)
            self.holds(asks, [], sample(asks, []), 0)
            self.holds(asks, [[leaf], 0, 1], sample(asks, [[leaf], 0, 1]), 0)

    def test_what_was_told_is_avoided(self):
        avoid = []
        for turn in range(30):
            avoid.append(sample(("row", [ANY, ANY], True), avoid))
        ends = all_leaves(avoid)
        self.assertEqual(len(set(ends)), 60)

    def test_deep_and_great(self):
        for asks in (deep_asks(20, True), deep_asks(20, False), wide_asks()):
            self.holds(asks, AVOIDS[2], sample(asks, AVOIDS[2]), 0)
            self.told(lets_in(asks, sample(asks, [])), True)

    def test_very_deep(self):
        doc = sample(deep_asks(600, True), [])
        self.told(lets_in(deep_asks(600, True), doc), True)


class Roomier(SampleCase):
    def rooms(self, asks, avoid, names):
        """What roomier tells is just what [4.7] tells: each place where there may be more, once."""
        docs = roomier(asks, avoid, names)
        self.assertIs(type(docs), list)
        told = {path for path, inner in told_paths(asks)}
        places = []
        for doc in docs:
            self.holds(asks, avoid, doc, 1)
            more = [path for path, end in routes(doc) if path not in told]
            self.assertEqual(len(more), 1)
            places.append(more[0])
        new = [place for place in places if isinstance(place[-1], str) and place[-1] not in names]
        wanted = room_paths(asks, sorted(set(names)))
        self.assertEqual(sorted(map(repr, wanted)), sorted(repr(place) for place in places if place not in new))
        tables = [path for path, inner in open_paths(asks) if inner[0] == "table"]
        self.assertEqual(sorted(map(repr, tables)), sorted(repr(place[:-1]) for place in new))
        self.assertFalse({place[-1] for place in new} & self.names_of(asks))

    def names_of(self, asks):
        found = {step for path, inner in told_paths(asks) for step in path if isinstance(step, str)}
        for path, inner in told_paths(asks):
            if inner[0] == "table":
                found.update(inner[2])
        return found

    def test_written_out(self):
        self.assertEqual(roomier(("just", 5), [], ["a"]), [])
        self.assertEqual(roomier(ANY, [], ["a"]), [])
        self.assertEqual(roomier(("row", [ANY], False), [], ["a"]), [])
        self.assertEqual(roomier(("table", {"a": ANY}, [], False), [], ["b"]), [])
        self.assertEqual([len(doc) for doc in roomier(("row", [ANY, ANY], True), [], [])], [3])
        docs = roomier(("table", {"a": ("just", 5)}, ["b"], True), [], ["a", "b", "c", "c"])
        self.assertEqual(len(docs), 2)
        self.assertEqual([doc["a"] for doc in docs], [5, 5])
        self.assertEqual([name in doc for doc in docs for name in ("b",)], [False, False])
        self.assertEqual(sorted("c" in doc for doc in docs), [False, True])

    def test_names(self):
        asks = ("table", {"a": ("table", {"d": ANY}, ["e"], True), "b": ("just", {"f": 5})}, ["c"], True)
        for names in ([], ["a"], ["b"], ["c"], ["d"], ["e"], ["f"], ["g"], ["g", "g"], ["h", "g", "h", "g"],
                      ["a", "b", "c", "d", "e", "f", "g", "a"], ["z"] * 5, list("abcdefghijklmnopqrstuvwxyz"),
                      ["abcdefgh", "aa", "ab"]):
            self.rooms(asks, [], names)

    def test_a_new_name_stands_nowhere(self):
        letters = "abcdefghijklmnopqrstuvwxyz"
        there = {name: ANY for name in letters[:9]}
        asks = ("table", there, list(letters[9:20]), True)
        self.rooms(asks, [], list(letters[20:]))
        pairs = [one + other for one in letters for other in letters]
        self.rooms(asks, [], list(letters[20:]) + pairs[:30])
        self.rooms(("table", {}, sorted(list(letters) + pairs), True), [], [])
        within_just = ("row", [("table", {}, [], True), ("just", [{"a": [{"b": 1, "c": {}}]}]), ("row", [], True)], True)
        self.rooms(within_just, [], ["d"])
        self.rooms(("row", [("table", {}, [], True), ("table", {"a": ANY}, ["b"], False)], False), [], [])

    def test_wild(self):
        chance = random.Random(3)
        for asks in many_asks(200, 4):
            names = [chance.choice(NAMES + ("d", "e")) for number in range(chance.choice((0, 1, 2, 4)))]
            self.rooms(asks, chance.choice(AVOIDS), names)

    def test_deep_and_great(self):
        for asks in (deep_asks(20, True), deep_asks(20, False)):
            self.rooms(asks, [0, 1], ["a", "c", "d"])
        docs = roomier(wide_asks(), [5], ["c", "d"])
        self.assertEqual(len(docs), 1 + 110 * 3)
        for doc in docs[::60]:
            self.holds(wide_asks(), [5], doc, 1)


class Bearing(Case):
    def test_within_is_borne_out(self):
        seen = many_asks(60, 3)
        for one in seen:
            for other in seen[::2]:
                avoid = [inner[1] for path, inner in told_paths(other) if inner[0] == "just"]
                docs = [sample(one, avoid)] + roomier(one, avoid, list(NAMES + ("d",)))
                self.told(within(one, other), all(lets_in(other, doc) for doc in docs))

    def test_what_both_let_in_is_borne_out(self):
        seen = many_asks(60, 3)
        for one in seen:
            for other in seen[::3]:
                both = both_of(one, other)
                if both is not None:
                    for doc in [sample(both, [])] + roomier(both, [], ["a", "d"]):
                        self.told(lets_in(one, doc) and lets_in(other, doc), True)


class Newness(Case):
    def test_what_is_told_is_new(self):
        shared = [[5], {"a": [5]}]
        cells = [("just", shared), ANY]
        more = [("row", [("row", cells, True), ("row", cells, True), ("just", shared)], True),
                ("table", {"a": ("just", shared), "b": ("row", [], True), "d": ("row", [], True)}, ["c"], True)]
        chance = random.Random(8)
        for asks in some_asks() + more + [wild_asks(chance, 4) for number in range(15)]:
            for avoid in ([], [[0, [1]], {"a": 2}]):
                stays_as_it_was(self, least_size, [asks])
                is_new_through_and_through(self, sample, [asks, avoid])
                is_new_through_and_through(self, roomier, [asks, avoid, ["b", "e", "b"]])

    def test_told_again_it_is_the_same(self):
        for asks in many_asks(40, 4):
            self.assertTrue(alike(sample(asks, [0, 2]), sample(twin(asks), [0, 2])))
            self.assertTrue(alike(roomier(asks, [0, 2], ["a", "e"]), roomier(twin(asks), [0, 2], ["a", "e"])))


if __name__ == "__main__":
    unittest.main()
