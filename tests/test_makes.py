"""Makes: [5.1], [5.2], [5.3]."""

import random
import unittest

from askings import some_asks, told_paths, wild_asks
from cases import Case
from makings import make, tell_apart, told_at, wild_makes
from patchbough.asks import good_form, lets_in
from patchbough.makes import good_makes, made
from samples import is_new_through_and_through, nested, stays_as_it_was, twin

ANY = ("any",)
ROW = ("row", [ANY, ("just", 5)], True)
TABLE = ("table", {"a": ANY, "b": ROW, "c": ("row", [ANY], False), "d": ("table", {"x": ANY}, ["y"], True),
                   "e": ("table", {"x": ANY}, [], False), "f": ("just", [7, {"g": [8]}])}, ["h", "i"], True)
DOC = {"a": 1, "b": [2, 5, 3, [4]], "c": [6], "d": {"x": 7, "z": {"w": 8}}, "e": {"x": 9}, "f": [7, {"g": [8]}],
       "j": {"k": []}, "l": "m"}


def pairs(count, seed):
    """Asks in good form and makes over them."""
    chance = random.Random(seed)
    told = []
    for asks in [good_form(asks) for asks in some_asks()] * 3:
        told.append((wild_makes(chance, asks, 3), asks))
    for number in range(count):
        asks = good_form(wild_asks(chance, 4))
        told.append((wild_makes(chance, asks, chance.choice((1, 2, 3, 4))), asks))
    return told


class Making(Case):
    def test_just(self):
        for doc in nested():
            self.told(made(("just", doc), ANY, 5), doc)
            self.told(made(("just", doc), TABLE, DOC), doc)

    def test_from(self):
        for doc in nested():
            self.told(made(("from", ()), ANY, doc), doc)
            self.told(made(("from", (0,)), ("row", [ANY], True), [doc, 1]), doc)
        for path, told in ((("a",), 1), (("b",), [2, 5, 3, [4]]), (("b", 1), 5), (("f", 1, "g"), [8]), ((), DOC),
                           (("d", "x"), 7), (("e",), {"x": 9})):
            self.told(made(("from", path), TABLE, DOC), told)

    def test_rows(self):
        for makes, told in ((("row", [], None), []), (("row", [("just", 1), ("from", ("a",))], None), [1, 1]),
                            (("row", [], ("b",)), [3, [4]]), (("row", [("just", 0)], ("b",)), [0, 3, [4]]),
                            (("row", [("from", ("b", 0)), ("from", ("b", 1))], ("b",)), [2, 5, 3, [4]]),
                            (("row", [("row", [("row", [], ("b",))], ("b",)), ("from", ("c",))], None),
                             [[[3, [4]], 3, [4]], [6]])):
            self.told(made(makes, TABLE, DOC), told)

    def test_tables(self):
        for makes, told in ((("table", {}, None), {}), (("table", {"z": ("from", ("a",)), "q": ("just", {})}, None),
                                                         {"z": 1, "q": {}}),
                            (("table", {}, ()), {"j": {"k": []}, "l": "m"}), (("table", {}, ("d",)), {"z": {"w": 8}}),
                            (("table", {"a": ("just", 0), "h": ("from", ("a",))}, ()),
                             {"a": 0, "h": 1, "j": {"k": []}, "l": "m"}),
                            (("table", {"x": ("table", {"y": ("just", 3)}, ("d",))}, ("d",)),
                             {"x": {"y": 3, "z": {"w": 8}}, "z": {"w": 8}})):
            self.told(made(makes, TABLE, DOC), told)

    def test_where_there_is_no_more_than_the_asks_tell(self):
        self.told(made(("row", [], ()), ROW, [1, 5]), [])
        self.told(made(("row", [("just", 0)], ()), ("row", [], True), []), [0])
        self.told(made(("row", [("just", 0)], ()), ("row", [], True), [1]), [0, 1])
        self.told(made(("table", {}, ()), ("table", {"a": ANY}, ["b"], True), {"a": 1}), {})
        self.told(made(("table", {}, ()), ("table", {"a": ANY}, ["b"], True), {"a": 1, "c": 2}), {"c": 2})

    def test_wild_makes(self):
        for makes, asks in pairs(400, 1):
            for doc in tell_apart(asks):
                self.told(lets_in(asks, doc), True)
                self.told(made(makes, asks, doc), make(makes, asks, doc))

    def test_deep(self):
        asks, doc, makes, path = ("row", [ANY], True), [1, 2], ("row", [], (0,) * 300), (0,) * 300
        for level in range(300):
            asks, doc, makes = ("row", [asks], True), [doc, 3], ("row", [makes], None)
        told = made(makes, asks, doc)
        for level in range(300):
            self.assertEqual(len(told), 1)
            told = told[0]
        self.told(told, [2])
        self.told(made(("from", path), asks, doc), [1, 2])


class GoodMakes(Case):
    def within_others(self, makes):
        """The makes by themselves, and within others that are good."""
        return [makes, ("row", [makes], None), ("row", [("just", 1), makes, ("just", 2)], ("b",)),
                ("table", {"q": makes}, None), ("table", {"a": makes, "h": ("just", 1)}, ()),
                ("row", [("table", {"x": ("row", [makes], None)}, ("d",))], None)]

    def is_good(self, makes, told):
        for other in self.within_others(makes):
            self.told(good_makes(other, TABLE), told)

    def test_good(self):
        for makes in (("just", 5), ("just", [{"a": []}]), ("from", ()), ("row", [], None), ("table", {}, None),
                      ("row", [("from", ("a",))], ("b",)), ("row", [], ("b",)), ("table", {}, ()), ("table", {}, ("d",)),
                      ("table", {"x": ("from", ()), "y": ("just", 1)}, ("d",)), ("table", {"q": ("just", 1)}, None)):
            self.is_good(makes, True)

    def test_from_where_nothing_is_told(self):
        for path, told in told_paths(TABLE):
            self.is_good(("from", path), True)
        for path in (("h",), ("i",), ("j",), ("z",), (0,), ("a", 0), ("a", "a"), ("b", 2), ("b", "a"), ("c", 1), ("d", "y"),
                     ("d", "z"), ("e", "y"), ("f", 2), ("f", "g"), ("f", 1, "h"), ("f", 1, "g", 1), ("f", 1, "g", 0, 0),
                     ("b", 10 ** 30)):
            self.is_good(("from", path), False)

    def test_tails(self):
        rests = {("b",): "row", (): "table", ("d",): "table"}
        paths = [path for path, told in told_paths(TABLE)] + [("h",), ("j",), (0,), ("a", 0), ("b", 2), ("c", 1)]
        for path in paths:
            self.is_good(("row", [], path), rests.get(path) == "row")
            self.is_good(("row", [("just", 1)], path), rests.get(path) == "row")
            self.is_good(("table", {}, path), rests.get(path) == "table")
        self.assertIn(("c",), paths)
        self.assertIn(("e",), paths)
        self.assertIn(("f",), paths)

    def test_a_tail_at_a_row_and_a_rest_at_a_table_of_a_just(self):
        for asks in (("just", [1, 2]), ("just", {"a": 1}), ("just", 5), ANY):
            self.told(good_makes(("row", [], ()), asks), False)
            self.told(good_makes(("table", {}, ()), asks), False)
            self.told(good_makes(("from", ()), asks), True)

    def test_names_beside_a_rest(self):
        for name, at_top, at_d in (("a", True, False), ("b", True, False), ("f", True, False), ("h", True, False),
                                   ("i", True, False), ("x", False, True), ("y", False, True), ("z", False, False),
                                   ("j", False, False)):
            self.is_good(("table", {name: ("just", 1)}, ()), at_top)
            self.is_good(("table", {name: ("from", ("a",))}, ("d",)), at_d)
            self.is_good(("table", {name: ("just", 1)}, None), True)
        self.is_good(("table", {"a": ("just", 1), "h": ("just", 1), "j": ("just", 1)}, ()), False)
        self.is_good(("table", {"a": ("just", 1), "h": ("just", 1), "i": ("just", 1)}, ()), True)

    def test_one_of_several_is_amiss(self):
        good, wrong = ("from", ("a",)), ("from", ("j",))
        for makes in (("row", [wrong, good], None), ("row", [good, wrong], None), ("row", [good, good, wrong], ("b",)),
                      ("table", {"a": good, "b": wrong}, ()), ("table", {"a": wrong, "b": good}, None),
                      ("row", [("row", [("table", {"a": wrong}, None)], None)], None)):
            self.is_good(makes, False)

    def test_wild_makes_are_good(self):
        for makes, asks in pairs(300, 2):
            self.told(good_makes(makes, asks), True)

    def test_wild_makes_over_other_asks(self):
        found = pairs(40, 3)
        for makes, asks in found:
            for other in [other for makes_there, other in found][::5]:
                self.told(good_makes(makes, other), self.by_hand(makes, other))

    def by_hand(self, makes, asks):
        word = makes[0]
        if word == "just":
            return True
        if word == "from":
            return told_at(asks, makes[1]) is not None
        inner = makes[1] if word == "row" else list(makes[1].values())
        if makes[2] is not None:
            there = told_at(asks, makes[2])
            if there is None or there[0] != word or there[-1] is not True:
                return False
            if word == "table" and set(makes[1]) - set(there[1]) - set(there[2]):
                return False
        return all(self.by_hand(other, asks) for other in inner)


class Newness(Case):
    def test_what_is_told_is_new(self):
        shared = [[5], {"a": [5]}]
        cells = [("just", shared), ("from", ("b",)), ("from", ("b",))]
        own = ("row", [("row", cells, ("b",)), ("row", cells, None), ("table", {"a": ("just", shared)}, ())], ("b",))
        for makes, asks, doc in [(own, TABLE, DOC)] + [(makes, asks, tell_apart(asks)[-1]) for makes, asks in pairs(30, 4)]:
            is_new_through_and_through(self, made, [makes, asks, doc])
            stays_as_it_was(self, good_makes, [makes, asks])

    def test_one_part_is_made_at_two_places(self):
        told = made(("row", [("from", ())] * 2, ()), ("row", [], True), [[1]])
        told[0][0].append(2)
        told[2].append(3)
        self.told(told, [[[1, 2]], [[1]], [1, 3]])

    def test_told_again_it_is_the_same(self):
        for makes, asks in pairs(30, 5):
            doc = tell_apart(asks)[-1]
            self.told(made(makes, asks, doc), made(twin(makes), twin(asks), twin(doc)))


if __name__ == "__main__":
    unittest.main()
