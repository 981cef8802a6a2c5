"""Edits: [2.1], [2.2], [2.3], [2.4], and that a refused edit changes nothing [0.5]."""

import unittest

from patchbough.edits import changed_at, put_at, taken_at
from patchbough.errors import BoughError, NoPart
from samples import alike, nested, rooms, routes, twin

VALUES = (0, 9, "", "new", [], {}, [1, [2]], {"a": {"b": []}})
GREAT = (21, 200, 2 ** 31, 2 ** 63 - 1, 2 ** 63, 2 ** 64, 10 ** 30, 10 ** 5000)
# A name is put, taken or changed in none of these, at "a" or behind it.
LACKING = ([], [1], ["a"], [{"a": 1}], 0, 5, "", "a", "abc")


class EditCase(unittest.TestCase):
    def told(self, got, expected):
        self.assertTrue(alike(got, expected), f"{got!r} is not {expected!r}")

    def refused(self, call, *things):
        before = twin(things)
        with self.assertRaises(NoPart) as caught:
            call(*things)
        self.assertIsInstance(caught.exception, BoughError)
        self.assertTrue(alike(things, before))


class Putting(EditCase):
    def test_at_a_name(self):
        self.told(put_at({}, ("a",), 5), {"a": 5})
        self.told(put_at({"b": 1}, ("a",), 5), {"a": 5, "b": 1})
        self.told(put_at({"a": {"b": 1}}, ("a", "a"), []), {"a": {"a": [], "b": 1}})
        self.told(put_at([7, {"b": 1}], (1, "c"), "x"), [7, {"b": 1, "c": "x"}])

    def test_at_a_place(self):
        self.told(put_at([], (0,), 5), [5])
        self.told(put_at([1, 2, 3], (0,), 9), [9, 1, 2, 3])
        self.told(put_at([1, 2, 3], (1,), 9), [1, 9, 2, 3])
        self.told(put_at([1, 2, 3], (2,), 9), [1, 2, 9, 3])
        self.told(put_at([1, 2, 3], (3,), 9), [1, 2, 3, 9])
        self.told(put_at([[1], [2]], (0,), [3]), [[3], [1], [2]])

    def test_at_a_place_within(self):
        self.told(put_at({"a": []}, ("a", 0), 5), {"a": [5]})
        self.told(put_at([[1], [2]], (0, 0), 5), [[5, 1], [2]])
        self.told(put_at([[1], [2]], (0, 1), 5), [[1, 5], [2]])
        self.told(put_at([[1], [2]], (1, 1), 5), [[1], [2, 5]])
        self.told(put_at([5, {"x": [[]]}], (1, "x", 0, 0), "y"), [5, {"x": [["y"]]}])

    def test_each_value(self):
        for value in VALUES:
            with self.subTest(value=value):
                self.told(put_at([7], (0,), value), [value, 7])
                self.told(put_at([7], (1,), value), [7, value])
                self.told(put_at({"b": 7}, ("a",), value), {"a": value, "b": 7})

    def test_the_place_beyond_the_one_behind_the_last_cell(self):
        for count in range(5):
            row = list(range(count))
            self.told(put_at(row, (count,), 9), row + [9])
            for place in (count + 1, count + 2) + GREAT:
                self.refused(put_at, row, (place,), 9)
                self.refused(put_at, {"a": row}, ("a", place), 9)

    def test_a_name_that_is_there(self):
        for value in VALUES:
            with self.subTest(value=value):
                self.refused(put_at, {"a": value}, ("a",), 9)
                self.refused(put_at, {"a": value}, ("a",), value)
                self.refused(put_at, [{"a": value}], (0, "a"), 9)

    def test_the_whole(self):
        for doc in nested():
            with self.subTest(doc=doc):
                self.refused(put_at, doc, (), 9)

    def test_a_holder_of_another_kind(self):
        for holder in LACKING:
            with self.subTest(holder=holder):
                self.refused(put_at, holder, ("a",), 9)
                self.refused(put_at, [holder], (0, "a"), 9)
                self.refused(put_at, {"x": holder}, ("x", "a"), 9)
        for holder in ({}, {"a": 1}, {"a": [1]}, 0, 5, "", "a", "abc"):
            for place in (0, 1):
                with self.subTest(holder=holder, place=place):
                    self.refused(put_at, holder, (place,), 9)
                    self.refused(put_at, [holder], (0, place), 9)
                    self.refused(put_at, {"x": holder}, ("x", place), 9)

    def test_a_holder_that_is_not_there(self):
        for doc, path in (({}, ("a", "b")), ({}, ("a", 0)), ([], (0, 0)), ([], (0, "a")), ([1], (1, 0)),
                          ([1], (1, "a")), ({"a": {}}, ("a", "b", "c")), ({"b": {}}, ("a", "c")), ([[]], (1, 0)),
                          (5, ("a", "b")), ("abc", (0, 0)), ([[]], (10 ** 30, 0)), ({"a": 1}, (0, "a"))):
            with self.subTest(doc=doc, path=path):
                self.refused(put_at, doc, path, 9)


class Taking(EditCase):
    def test_at_a_name(self):
        self.told(taken_at({"a": 5}, ("a",)), ({}, 5))
        self.told(taken_at({"a": 5, "b": [1]}, ("b",)), ({"a": 5}, [1]))
        self.told(taken_at({"a": {"a": 1, "b": 2}}, ("a", "a")), ({"a": {"b": 2}}, 1))
        self.told(taken_at([7, {"b": {}}], (1, "b")), ([7, {}], {}))

    def test_at_a_place(self):
        self.told(taken_at([5], (0,)), ([], 5))
        self.told(taken_at([1, 2, 3], (0,)), ([2, 3], 1))
        self.told(taken_at([1, 2, 3], (1,)), ([1, 3], 2))
        self.told(taken_at([1, 2, 3], (2,)), ([1, 2], 3))
        self.told(taken_at([1, 1, 2], (1,)), ([1, 2], 1))

    def test_at_a_place_within(self):
        self.told(taken_at({"a": [5]}, ("a", 0)), ({"a": []}, 5))
        self.told(taken_at([[1], [2, 3]], (1, 0)), ([[1], [3]], 2))
        self.told(taken_at([5, {"x": [["y"]]}], (1, "x", 0, 0)), ([5, {"x": [[]]}], "y"))

    def test_a_part_of_each_kind(self):
        for value in VALUES:
            with self.subTest(value=value):
                self.told(taken_at([value, 7], (0,)), ([7], value))
                self.told(taken_at({"a": value, "b": 7}, ("a",)), ({"b": 7}, value))

    def test_the_whole(self):
        for doc in nested():
            with self.subTest(doc=doc):
                self.refused(taken_at, doc, ())

    def test_nothing_stands_there(self):
        for holder in LACKING + ({}, {"b": 1}, {"aa": 1}):
            for doc, path in ((holder, ("a",)), ([holder], (0, "a")), ({"x": holder}, ("x", "a")),
                              (holder, ("a", "b")), (holder, ("a", 0))):
                with self.subTest(doc=doc, path=path):
                    self.refused(taken_at, doc, path)
        for holder in ({}, {"a": 1}, {"a": [1]}, 0, 5, "", "a", "abc", []):
            for doc, path in ((holder, (0,)), ([holder], (0, 0)), ({"x": holder}, ("x", 0)), (holder, (0, 0))):
                with self.subTest(doc=doc, path=path):
                    self.refused(taken_at, doc, path)

    def test_the_places_behind_the_last_cell(self):
        for count in range(5):
            row = list(range(count))
            for place in (count, count + 1) + GREAT:
                self.refused(taken_at, row, (place,))
                self.refused(taken_at, {"a": row}, ("a", place))
                self.refused(taken_at, [row], (place + 1, 0))


class Changing(EditCase):
    def test_at_a_name(self):
        self.told(changed_at({"a": 5}, ("a",), 6), {"a": 6})
        self.told(changed_at({"a": 5, "b": 1}, ("a",), []), {"a": [], "b": 1})
        self.told(changed_at({"a": {"b": 1}}, ("a", "b"), "x"), {"a": {"b": "x"}})

    def test_at_a_place(self):
        self.told(changed_at([1, 2, 3], (0,), 9), [9, 2, 3])
        self.told(changed_at([1, 2, 3], (1,), 9), [1, 9, 3])
        self.told(changed_at([1, 2, 3], (2,), 9), [1, 2, 9])
        self.told(changed_at({"a": [[1], 2]}, ("a", 0, 0), {}), {"a": [[{}], 2]})

    def test_the_whole(self):
        for doc in nested():
            for value in VALUES:
                with self.subTest(doc=doc, value=value):
                    self.told(changed_at(doc, (), value), value)

    def test_each_part_by_each_value(self):
        for doc in nested():
            for path, part in routes(doc):
                for value in VALUES:
                    with self.subTest(doc=doc, path=path, value=value):
                        self.told(changed_at(doc, path, value), self.by_hand(doc, path, value))

    def by_hand(self, doc, path, value):
        if path == ():
            return value
        told = twin(doc)
        holder = told
        for step in path[:-1]:
            holder = holder[step]
        holder[path[-1]] = value
        return told

    def test_by_itself(self):
        for doc in nested():
            for path, part in routes(doc):
                with self.subTest(doc=doc, path=path):
                    self.told(changed_at(doc, path, part), doc)

    def test_nothing_stands_there(self):
        for holder in LACKING + ({}, {"b": 1}, {"aa": 1}):
            for doc, path in ((holder, ("a",)), ([holder], (0, "a")), ({"x": holder}, ("x", "a")),
                              (holder, ("a", "b")), (holder, ("a", 0))):
                with self.subTest(doc=doc, path=path):
                    self.refused(changed_at, doc, path, 9)
        for holder in ({}, {"a": 1}, {"a": [1]}, 0, 5, "", "a", "abc", []):
            for doc, path in ((holder, (0,)), ([holder], (0, 0)), ({"x": holder}, ("x", 0)), (holder, (0, 0))):
                with self.subTest(doc=doc, path=path):
                    self.refused(changed_at, doc, path, 9)

    def test_the_places_behind_the_last_cell(self):
        for count in range(5):
            row = list(range(count))
            for place in (count, count + 1) + GREAT:
                self.refused(changed_at, row, (place,), 9)
                self.refused(changed_at, {"a": row}, ("a", place), 9)


class Rounds(EditCase):
    def test_what_was_put_can_be_taken(self):
        for doc in nested():
            for path in rooms(doc):
                for value in VALUES:
                    with self.subTest(doc=doc, path=path, value=value):
                        self.told(taken_at(put_at(doc, path, value), path), (doc, value))

    def test_what_was_taken_can_be_put(self):
        for doc in nested():
            for path, part in routes(doc)[1:]:
                with self.subTest(doc=doc, path=path):
                    told = taken_at(doc, path)
                    self.assertIs(type(told), tuple)
                    self.assertEqual(len(told), 2)
                    self.told(told[1], part)
                    self.told(put_at(told[0], path, told[1]), doc)

    def test_what_was_told_may_be_deeper_and_is_handed_in_again(self):
        doc = []
        for level in range(200):
            doc = put_at([], (0,), doc)
        path = (0,) * 200
        deeper = put_at(doc, path + (0,), "end")
        rest, part = taken_at(deeper, path + (0,))
        self.assertEqual(part, "end")
        self.assertEqual(rest, doc)
        self.assertEqual(changed_at(deeper, path, []), doc)


if __name__ == "__main__":
    unittest.main()
