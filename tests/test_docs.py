"""Documents: [0.1], [0.3], [1.1], [1.2], [1.3]."""

import unittest

from patchbough.docs import copy_of, is_doc, is_name, kind_of, size_of
from patchbough.edits import changed_at
from samples import alike, chain, nested, routes

STRANGE = [True, False, None, 1.5, 1.0, 1j, b"ab", (), (1,), ("a",), set(), {"a", "b"}, frozenset(), object(),
           range(3), len, int]
WRONG_SIGNS = "ABZ019 _-'/:;.\n\t@[`{~\x00\x7f"


class Names(unittest.TestCase):
    def test_names(self):
        for thing in ("a", "z", "ab", "m", "abcdefg", "abcdefgh", "zzzzzzzz", "az"):
            with self.subTest(thing=thing):
                self.assertIs(is_name(thing), True)

    def test_each_letter(self):
        for letter in "abcdefghijklmnopqrstuvwxyz":
            with self.subTest(letter=letter):
                self.assertIs(is_name(letter), True)

    def test_none_and_nine_letters(self):
        for thing in ("", "abcdefghi", "a" * 12, "a" * 1000):
            with self.subTest(thing=thing):
                self.assertIs(is_name(thing), False)

    def test_a_wrong_sign_at_each_place(self):
        for sign in WRONG_SIGNS:
            for thing in (sign, sign + "ab", "a" + sign + "b", "ab" + sign, sign + "abcdefg", "abcdefg" + sign):
                with self.subTest(thing=thing):
                    self.assertIs(is_name(thing), False)

    def test_other_kinds(self):
        for thing in STRANGE + [0, 7, -1, [], ["a"], {}, {"a": 1}]:
            with self.subTest(thing=thing):
                self.assertIs(is_name(thing), False)


class Documents(unittest.TestCase):
    def test_the_good_examples(self):
        for thing in (7, "", "ab", [], [[1], "x"], {"a": {}}):
            with self.subTest(thing=thing):
                self.assertIs(is_doc(thing), True)

    def test_the_wrong_examples(self):
        for thing in (True, None, 1.5, "A", "a b", "a" * 13, (), (1, 2), {"": 1}, {1: 2}, {"a": None}, [True]):
            with self.subTest(thing=thing):
                self.assertIs(is_doc(thing), False)

    def test_nested_documents(self):
        for doc in nested():
            with self.subTest(doc=doc):
                self.assertIs(is_doc(doc), True)

    def test_numbers(self):
        for thing in (0, 1, -1, 10 ** 59, -(10 ** 59), 10 ** 60 - 1):
            with self.subTest(thing=thing):
                self.assertIs(is_doc(thing), True)
                self.assertIs(is_doc([thing]), True)
                self.assertIs(is_doc({"a": thing}), True)

    def test_texts_of_each_length(self):
        for length in range(13):
            with self.subTest(length=length):
                self.assertIs(is_doc("z" * length), True)
        for length in (13, 14, 100):
            with self.subTest(length=length):
                self.assertIs(is_doc("z" * length), False)
                self.assertIs(is_doc(["z" * length]), False)

    def test_texts_with_a_wrong_sign(self):
        for sign in WRONG_SIGNS:
            for text in (sign, sign + "ab", "a" + sign + "b", "ab" + sign, sign + "a" * 11, "a" * 11 + sign):
                for thing in (text, [text], {"a": text}):
                    with self.subTest(thing=thing):
                        self.assertIs(is_doc(thing), False)

    def test_strange_things_anywhere(self):
        for strange in STRANGE:
            for thing in (strange, [strange], [1, strange], [strange, 1], [1, strange, 1], [[], [strange]],
                          {"a": strange}, {"a": 1, "b": strange}, {"a": strange, "b": 1}, {"a": [{"b": strange}]},
                          [{"a": strange}], [{}, {"a": [1, strange]}, "b"]):
                with self.subTest(thing=thing):
                    self.assertIs(is_doc(thing), False)

    def test_tables_with_a_key_that_is_no_name(self):
        keys = ["", "A", "a b", "abcdefghi", "a1", "aB", "ab ", 0, 1, -1, True, False, None, 1.5, (), ("a",), b"a"]
        for key in keys:
            for thing in ({key: 1}, {"a": 1, key: 1}, {key: 1, "a": 1}, [{key: 1}], {"a": {key: 1}}, {key: []},
                          {"a": 1, key: 1, "b": 1}):
                with self.subTest(thing=thing):
                    self.assertIs(is_doc(thing), False)

    def test_a_name_of_eight_letters_in_a_table(self):
        self.assertIs(is_doc({"abcdefgh": 1}), True)
        self.assertIs(is_doc([{"abcdefgh": {"abcdefgh": ""}}]), True)

    def test_a_hundred_deep(self):
        for bottom in (7, "", "ab", [], {}, {"a": 1}):
            for depth in (98, 99):
                with self.subTest(bottom=bottom, depth=depth):
                    self.assertIs(is_doc(chain(depth, bottom)), True)

    def test_a_hundred_deep_and_amiss_at_the_bottom(self):
        for bottom in (True, None, 1.5, "A", "a" * 13, (), {"": 1}, {1: 2}, {"a": None}, [True]):
            for depth in (98, 99):
                with self.subTest(bottom=bottom, depth=depth):
                    self.assertIs(is_doc(chain(depth, bottom)), False)

    def test_wide_documents(self):
        self.assertIs(is_doc(list(range(199))), True)
        self.assertIs(is_doc(list(range(199)) + [None]), False)
        self.assertIs(is_doc([None] + list(range(199))), False)


class Kinds(unittest.TestCase):
    def test_each_kind(self):
        for kind, docs in (("number", (0, 7, -7, 10 ** 59)),
                           ("text", ("", "a", "abcdefghijkl", "row", "table")),
                           ("row", ([], [1], ["a"], [{}], [[]])),
                           ("table", ({}, {"a": 1}, {"a": []}, {"row": "row"}))):
            for doc in docs:
                with self.subTest(doc=doc):
                    self.assertEqual(kind_of(doc), kind)


class Sizes(unittest.TestCase):
    def test_one_part(self):
        for doc in (0, -5, 10 ** 59, "", "ab", "abcdefghijkl", [], {}):
            with self.subTest(doc=doc):
                self.assertEqual(size_of(doc), 1)

    def test_the_example(self):
        self.assertEqual(size_of([5, {"a": 5}]), 4)

    def test_more(self):
        for doc, size in (([[]], 2), ([{}], 2), ({"a": []}, 2), ({"abc": "abc"}, 2), ([1, 2, 3], 4), ([[1], [1]], 5),
                          ({"a": 1, "b": 2}, 3), ({"a": {"a": {"a": 1}}}, 4), ([[[[]]]], 4), ([0, "", [], {}], 5)):
            with self.subTest(doc=doc):
                self.assertEqual(size_of(doc), size)

    def test_one_list_at_two_places_counts_twice(self):
        shared = [1, [2]]
        self.assertEqual(size_of([shared, shared]), 9)
        self.assertEqual(size_of({"a": shared, "b": shared}), 9)

    def test_as_many_as_there_are_paths(self):
        for doc in nested():
            with self.subTest(doc=doc):
                self.assertEqual(size_of(doc), len(routes(doc)))

    def test_deep_and_wide(self):
        self.assertEqual(size_of(chain(19, 7)), 20)
        self.assertEqual(size_of(list(range(199))), 200)


class Copies(unittest.TestCase):
    def test_equal(self):
        for doc, again in zip(nested(), nested()):
            with self.subTest(doc=doc):
                self.assertTrue(alike(copy_of(doc), again))

    def test_what_was_told_may_be_deeper_and_is_handed_in_again(self):
        doc = 7
        for level in range(200):
            doc = changed_at([0], (0,), doc)
        self.assertIs(is_doc(copy_of(doc)), True)
        self.assertEqual(size_of(copy_of(doc)), 201)
        self.assertEqual(copy_of(doc), doc)


if __name__ == "__main__":
    unittest.main()
