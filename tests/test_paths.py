"""Paths: [1.4], [1.5], [1.6], [1.7]."""

import unittest

from patchbough.errors import BoughError, NoPart
from patchbough.paths import begins, has_part, is_path, part_at, paths_of
from samples import alike, chain, nested, routes, twin

GREAT = (20, 21, 200, 2 ** 31, 2 ** 63 - 1, 2 ** 63, 2 ** 64, 10 ** 30, 10 ** 60, 10 ** 5000)


class Paths(unittest.TestCase):
    def test_the_good_examples(self):
        for thing in ((), ("a",), (0, "a", 12)):
            with self.subTest(thing=thing):
                self.assertIs(is_path(thing), True)

    def test_the_wrong_examples(self):
        for thing in ([], ("A",), (-1,), (True,), ("a", None), "a", 0):
            with self.subTest(thing=thing):
                self.assertIs(is_path(thing), False)

    def test_names_and_places(self):
        for thing in ((0,), (1,), (0, 0), ("abcdefgh",), ("a", "a"), ("z", 0), (0, "z"), ("a",) * 13, (0,) * 200):
            with self.subTest(thing=thing):
                self.assertIs(is_path(thing), True)

    def test_great_places(self):
        for place in GREAT:
            self.assertIs(is_path((place,)), True)
            self.assertIs(is_path((place, "a")), True)
            self.assertIs(is_path((-place,)), False)

    def test_wrong_steps_anywhere(self):
        steps = [True, False, None, -1, -2, -(10 ** 30), "", "A", "abcdefghi", "a b", "a1", "0", "-1", 0.0, 1.5, (),
                 ("a",), (0,), [], ["a"], {}, {"a": 1}, b"a", object(), frozenset()]
        for step in steps:
            for thing in ((step,), (step, "a"), ("a", step), (0, step), ("a", step, 0), (0, 1, step), (step, step)):
                with self.subTest(thing=thing):
                    self.assertIs(is_path(thing), False)

    def test_no_tuple(self):
        for thing in ([], ["a"], [0], [0, "a", 12], "a", "", "abc", 0, 7, True, None, 1.5, {}, {"a": 1}, {0: 1}, set(),
                      {0}, range(2), object(), b"a"):
            with self.subTest(thing=thing):
                self.assertIs(is_path(thing), False)


class Parts(unittest.TestCase):
    def refused(self, doc, path):
        before = twin(doc)
        self.assertIs(has_part(doc, path), False)
        with self.assertRaises(NoPart) as caught:
            part_at(doc, path)
        self.assertIsInstance(caught.exception, BoughError)
        self.assertTrue(alike(doc, before))

    def test_the_whole(self):
        for doc in nested():
            with self.subTest(doc=doc):
                self.assertIs(has_part(doc, ()), True)
                self.assertTrue(alike(part_at(doc, ()), doc))

    def test_each_part(self):
        for doc in nested():
            for path, part in routes(doc):
                with self.subTest(doc=doc, path=path):
                    self.assertIs(has_part(doc, path), True)
                    self.assertTrue(alike(part_at(doc, path), part))

    def test_written_out(self):
        doc = [5, {"b": 6, "a": [7, "x"]}]
        for path, part in (((0,), 5), ((1,), {"a": [7, "x"], "b": 6}), ((1, "b"), 6), ((1, "a"), [7, "x"]),
                           ((1, "a", 0), 7), ((1, "a", 1), "x")):
            with self.subTest(path=path):
                self.assertIs(has_part(doc, path), True)
                self.assertTrue(alike(part_at(doc, path), part))

    def test_a_part_that_counts_for_nothing_to_python_is_there(self):
        for part in (0, "", [], {}):
            for doc, path in (([part], (0,)), ({"a": part}, ("a",)), ([[part]], (0, 0)), (part, ())):
                with self.subTest(doc=doc):
                    self.assertIs(has_part(doc, path), True)
                    self.assertTrue(alike(part_at(doc, path), part))

    def test_a_name_for_anything_but_a_table_that_has_it(self):
        for other in ([], [1], ["a"], [{"a": 1}], 0, 5, "", "a", "abc", {}, {"b": 1}, {"aa": 1}, {"b": {"a": 1}}):
            for doc, path in ((other, ("a",)), ([other], (0, "a")), ({"x": other}, ("x", "a")),
                              (other, ("a", "a")), (other, ("a", 0)), ([1, [other]], (1, 0, "a"))):
                with self.subTest(doc=doc, path=path):
                    self.refused(doc, path)

    def test_a_place_for_anything_but_a_row_that_has_it(self):
        for other in ({}, {"a": 1}, {"a": [1]}, 0, 5, "", "a", "abc", [], [1], [[1, 2, 3]]):
            for doc, path in ((other, (1,)), ([other], (0, 1)), ({"x": other}, ("x", 1)), (other, (1, 0)),
                              (other, (1, "a")), ({"x": [5, other]}, ("x", 1, 1))):
                with self.subTest(doc=doc, path=path):
                    self.refused(doc, path)
        for other in ({}, {"a": 1}, {"a": [1]}, 0, 5, "", "a", "abc", []):
            for doc, path in ((other, (0,)), ([other], (0, 0)), ({"x": other}, ("x", 0))):
                with self.subTest(doc=doc, path=path):
                    self.refused(doc, path)

    def test_the_last_cell_and_the_places_behind_it(self):
        for count in range(6):
            row = list(range(10, 10 + count))
            for place in range(count):
                self.assertEqual(part_at(row, (place,)), 10 + place)
                self.assertIs(has_part(row, (place,)), True)
            for place in (count, count + 1, count + 2):
                with self.subTest(count=count, place=place):
                    self.refused(row, (place,))
                    self.refused({"a": row}, ("a", place))

    def test_great_places(self):
        for doc in ([], [1, 2, 3], {}, {"a": 1}, 5, "abc", [[1], 2]):
            for place in GREAT:
                self.refused(doc, (place,))
                self.refused([doc], (0, place))
                self.refused([doc], (place, 0))

    def test_beyond_a_leaf(self):
        for doc in nested():
            for path, part in routes(doc):
                if not isinstance(part, (list, dict)):
                    for step in (0, 1, "a"):
                        with self.subTest(doc=doc, path=path, step=step):
                            self.refused(doc, path + (step,))

    def test_deep(self):
        doc = chain(19, 7)
        path = ("a", 0) * 9
        path = (0,) + path
        self.assertEqual(part_at(doc, path), 7)
        self.refused(doc, path + (0,))
        self.refused(doc, path[:-1] + ("a",))


class AllPaths(unittest.TestCase):
    def test_the_example(self):
        told = paths_of([5, {"b": 6, "a": []}])
        self.assertTrue(alike(told, [(), (0,), (1,), (1, "a"), (1, "b")]))

    def test_one_part(self):
        for doc in (0, 7, "", "abc", [], {}):
            with self.subTest(doc=doc):
                self.assertTrue(alike(paths_of(doc), [()]))

    def test_names_that_begin_one_another(self):
        doc = {"b": 1, "abc": [2], "ab": {"b": 3, "a": 4}, "a": [5, 6], "aa": 7, "az": 8}
        self.assertTrue(alike(paths_of(doc), [
            (), ("a",), ("a", 0), ("a", 1), ("aa",), ("ab",), ("ab", "a"), ("ab", "b"), ("abc",), ("abc", 0),
            ("az",), ("b",)]))

    def test_the_order_in_which_names_came(self):
        names = ("a", "ab", "b", "ba", "c")
        rising = {name: {"y": 1, "x": [2]} for name in names}
        falling = {name: {"x": [2], "y": 1} for name in reversed(names)}
        mixed = {name: {"y": 1, "x": [2]} for name in ("b", "c", "a", "ba", "ab")}
        expected = [()]
        for name in names:
            expected.extend([(name,), (name, "x"), (name, "x", 0), (name, "y")])
        for doc in (rising, falling, mixed):
            self.assertTrue(alike(paths_of(doc), expected))

    def test_what_goes_through_a_cell_stands_right_behind_it(self):
        doc = [[[1], 2], 3, [4, [5]]]
        self.assertTrue(alike(paths_of(doc), [
            (), (0,), (0, 0), (0, 0, 0), (0, 1), (1,), (2,), (2, 0), (2, 1), (2, 1, 0)]))

    def test_places_are_ordered_as_numbers(self):
        doc = list(range(25))
        self.assertTrue(alike(paths_of(doc), [()] + [(place,) for place in range(25)]))

    def test_each_path_once(self):
        for doc in nested():
            with self.subTest(doc=doc):
                told = paths_of(doc)
                self.assertTrue(alike(told, [path for path, part in routes(doc)]))
                self.assertEqual(len(set(told)), len(told))
                for path in told:
                    self.assertIs(is_path(path), True)
                    self.assertIs(has_part(doc, path), True)

    def test_one_list_at_two_places(self):
        shared = [1]
        self.assertTrue(alike(paths_of([shared, shared]), [(), (0,), (0, 0), (1,), (1, 0)]))


class Beginnings(unittest.TestCase):
    PATHS = [(), ("a",), (0,), (1,), (10,), ("a", 0), ("a", 1), ("a", "a"), ("a", "b"), (0, "a"), (0, 0), (0, 0, 0),
             (0, 0, "a"), ("ab",), ("ab", 0), ("b", "a"), ("a", 0, "b", 1), ("a", 0, "b", 2), ("a", 0, "c", 1)]

    def test_the_empty_path_begins_each(self):
        for path in self.PATHS:
            with self.subTest(path=path):
                self.assertIs(begins((), path), True)

    def test_each_begins_itself(self):
        for path in self.PATHS:
            with self.subTest(path=path):
                self.assertIs(begins(path, tuple(list(path))), True)

    def test_each_beginning(self):
        for path in self.PATHS:
            for length in range(len(path) + 1):
                with self.subTest(path=path, length=length):
                    self.assertIs(begins(path[:length], path), True)

    def test_a_longer_path_begins_no_shorter_one(self):
        for path in self.PATHS:
            for step in ("a", 0, 7):
                with self.subTest(path=path, step=step):
                    self.assertIs(begins(path + (step,), path), False)
                    self.assertIs(begins(path, path + (step,)), True)

    def test_paths_that_differ_in_one_step(self):
        whole = ("a", 0, "b", 1)
        for place in range(4):
            for step in ("z", "ab", "ba", 7, 10, 2 ** 64):
                other = whole[:place] + (step,) + whole[place + 1:]
                for length in range(5):
                    with self.subTest(other=other, length=length):
                        self.assertIs(begins(other[:length], whole), length <= place)
                        self.assertIs(begins(whole[:length], other), length <= place)

    def test_names_that_begin_one_another(self):
        for one, other in ((("a",), ("ab",)), (("ab",), ("a",)), ((1,), (10,)), ((1,), (11, 1)), (("a", "b"), ("ab",)),
                           (("ab",), ("a", "b"))):
            with self.subTest(one=one, other=other):
                self.assertIs(begins(one, other), False)

    def test_a_text_is_no_number(self):
        for one, other in ((("a",), (0,)), ((0,), ("a",)), (("a", 0), (0, "a")), ((0, "a"), ("a", 0)),
                           ((0, "a"), (0, 0)), ((0, 0), (0, "a")), ((0, "a"), (0, 0, "a"))):
            with self.subTest(one=one, other=other):
                self.assertIs(begins(one, other), False)

    def test_not_from_behind_or_within(self):
        for one, other in ((("b",), ("a", "b")), ((1,), (0, 1)), ((1,), (0, 1, 2)), (("a", "c"), ("a", "b", "c"))):
            with self.subTest(one=one, other=other):
                self.assertIs(begins(one, other), False)


if __name__ == "__main__":
    unittest.main()
