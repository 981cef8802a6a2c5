"""What is handed in stays as it was, and what is told is new through and through, [0.2]."""

import unittest

from patchbough.docs import copy_of, is_doc, is_name, kind_of, size_of
from patchbough.edits import changed_at, put_at, taken_at
from patchbough.errors import NoPart
from patchbough.paths import begins, has_part, is_path, part_at, paths_of
from samples import (alike, is_the_askers_own, nested, rooms, routes, spoil_all, stand_by_themselves, stays_as_it_was,
                     stays_behind_the_call, twin)

VALUES = ([[1], [1]], {"a": [], "b": {"a": []}})


def calls():
    """Calls of every function that tells a list, a dict or a document: the function and what is handed in."""
    told = []
    for doc in nested():
        told.extend([(copy_of, [doc]), (paths_of, [doc])])
        for path, part in routes(doc):
            told.append((part_at, [doc, path]))
            if path != ():
                told.append((taken_at, [doc, path]))
            told.extend((changed_at, [doc, path, value]) for value in VALUES)
        for path in rooms(doc):
            told.extend((put_at, [doc, path, value]) for value in VALUES)
    return [(function, twin(things)) for function, things in told]


def plain_calls():
    """Calls of the functions that tell a number, a text or a truth."""
    told = []
    for doc in nested():
        told.extend([(is_doc, [doc]), (is_name, [doc]), (is_path, [doc]), (kind_of, [doc]), (size_of, [doc])])
        told.extend([(is_doc, [[doc, None]]), (is_doc, [{"a": doc, "": doc}]), (is_path, [(doc,)])])
        for path, part in routes(doc):
            told.extend([(has_part, [doc, path]), (has_part, [doc, path + ("nope",)]), (begins, [path, path])])
    return told


def refused_calls():
    """Calls that are refused with NoPart."""
    told = []
    for doc in nested():
        told.extend([(part_at, [doc, ("nope",)]), (part_at, [doc, (99,)])])
        told.extend([(taken_at, [doc, ()]), (taken_at, [doc, ("nope",)]), (taken_at, [doc, (99,)])])
        for value in VALUES:
            told.append((put_at, [doc, (), value]))
            told.extend((put_at, [doc, path, value]) for path in ((99,), ("nope", "a"), (99, 0)))
            told.extend((changed_at, [doc, path, value]) for path in (("nope",), (99,), (99, 0)))
    return told


class Handed(unittest.TestCase):
    def test_what_is_handed_in_is_as_it_was(self):
        for function, things in calls() + plain_calls():
            stays_as_it_was(self, function, things)

    def test_a_refused_call_changes_nothing(self):
        for function, things in refused_calls():
            before = twin(things)
            with self.subTest(function=function.__name__, things=before):
                with self.assertRaises(NoPart):
                    function(*things)
                self.assertTrue(alike(things, before))
                self.assertTrue(alike(copy_of(things[0]), before[0]))

    def test_the_order_of_names_is_as_it_was(self):
        doc = {"c": 1, "a": {"z": 1, "y": 2}, "b": 3}
        for function, things in ((copy_of, [doc]), (paths_of, [doc]), (size_of, [doc]), (is_doc, [doc]),
                                 (part_at, [doc, ("a",)]), (taken_at, [doc, ("a",)]), (put_at, [doc, ("d",), 1]),
                                 (changed_at, [doc, ("c",), 1])):
            function(*things)
            self.assertEqual(list(doc), ["c", "a", "b"])
            self.assertEqual(list(doc["a"]), ["z", "y"])


class Told(unittest.TestCase):
    def test_each_row_and_table_of_what_is_told_is_changed(self):
        for function, things in calls():
            is_the_askers_own(self, function, things)

    def test_each_stands_by_itself(self):
        for function, things in calls():
            stand_by_themselves(self, function, things)

    def test_what_was_handed_in_is_changed_behind_the_call(self):
        for function, things in calls():
            stays_behind_the_call(self, function, things)

    def test_what_is_told_is_handed_in_again(self):
        for doc in nested():
            first = copy_of(doc)
            second = copy_of(first)
            spoil_all(first)
            self.assertTrue(alike(second, doc))

    def test_rest_and_part_share_nothing(self):
        shared = [[1], {"a": 2}]
        rest, part = taken_at([shared, shared, {"a": shared}], (1,))
        spoil_all(part)
        self.assertTrue(alike(rest, [[[1], {"a": 2}], {"a": [[1], {"a": 2}]}]))


class OneThingAtTwoPlaces(unittest.TestCase):
    def doc_of(self, shared):
        return {"a": shared, "b": [shared, {"c": shared}], "d": 5}

    def calls_of(self, shared):
        doc = self.doc_of(shared)
        return [
            (copy_of, [doc]),
            (part_at, [doc, ()]),
            (part_at, [doc, ("b",)]),
            (part_at, [doc, ("b", 1)]),
            (put_at, [doc, ("e",), shared]),
            (put_at, [doc, ("b", 0), doc]),
            (put_at, [doc, ("b", 1, "d"), [shared, shared]]),
            (taken_at, [doc, ("a",)]),
            (taken_at, [doc, ("b",)]),
            (taken_at, [doc, ("b", 0)]),
            (changed_at, [doc, (), doc]),
            (changed_at, [doc, ("d",), doc]),
            (changed_at, [doc, ("b", 1, "c"), [shared, {"a": shared}]]),
        ]

    def test_it_stands_by_itself_at_each_place_of_what_is_told(self):
        for shared in ([], {}, [1], {"a": 1}, [[], [2]], {"a": {"b": []}}):
            for function, things in self.calls_of(shared):
                stand_by_themselves(self, function, things)
                self.assertTrue(alike(things[0], self.doc_of(twin(shared))))

    def test_an_edit_reaches_one_place_alone(self):
        row = [1]
        table = {"x": 1}
        self.assertTrue(alike(put_at([row, row], (0, 1), 2), [[1, 2], [1]]))
        self.assertTrue(alike(put_at([row, row], (1, 0), 2), [[1], [2, 1]]))
        self.assertTrue(alike(put_at({"a": table, "b": table}, ("a", "y"), 2), {"a": {"x": 1, "y": 2}, "b": {"x": 1}}))
        self.assertTrue(alike(taken_at([row, row], (0, 0)), ([[], [1]], 1)))
        self.assertTrue(alike(taken_at({"a": table, "b": table}, ("b", "x")), ({"a": {"x": 1}, "b": {}}, 1)))
        self.assertTrue(alike(changed_at([row, row], (1, 0), 2), [[1], [2]]))
        self.assertTrue(alike(changed_at({"a": table, "b": table}, ("a", "x"), 2), {"a": {"x": 2}, "b": {"x": 1}}))
        self.assertEqual((row, table), ([1], {"x": 1}))

    def test_a_document_within_itself_is_the_one_that_was_handed_in(self):
        doc = [1, [2]]
        self.assertTrue(alike(put_at(doc, (1, 0), doc), [1, [[1, [2]], 2]]))
        self.assertTrue(alike(changed_at(doc, (1, 0), doc), [1, [[1, [2]]]]))
        self.assertTrue(alike(put_at(doc, (1, 1), doc[1]), [1, [2, [2]]]))
        self.assertTrue(alike(doc, [1, [2]]))


if __name__ == "__main__":
    unittest.main()
