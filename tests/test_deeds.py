"""Rows and deeds: [2.5], [2.6], [2.7]."""

import unittest

from cases import Case
from patchbough.deeds import Ask, Change, Copy, Deed, Has, Is, Lacks, Move, Put, Take, deed_of
from patchbough.edits import put_at
from patchbough.errors import NoFit, NoRow
from reckoned import WORDS, Misfit, by_hand, rows_about
from samples import alike, is_new_through_and_through, nested, spoil_all, stays_as_it_was, twin

CLASSES = {"put": Put, "take": Take, "change": Change, "move": Move, "copy": Copy, "ask": Ask, "has": Has,
           "lacks": Lacks, "is": Is}
NO_DOCS = (True, False, None, 1.5, "A", "a b", "a" * 13, (), (1,), {"": 1}, {1: 2}, {"a": None}, [True], b"a",
           {"a"}, [[[None]]], {"a": [{"b": (1,)}]}, {"abcdefghi": 1}, [1, 2.0])
NO_PATHS = ([], ["a"], "a", "", 0, None, True, {}, {"a": 1}, ("A",), ("",), ("abcdefghi",), (-1,), (True,), (None,),
            ("a", None), (0, -1), (1.0,), (("a",),), ([],), ({},), ("a",) * 13, (0,) * 13, ("a", 0) * 6 + ("a",), (21,),
            ("a", 21), (21, "a"), (22,), (10 ** 30,), (10 ** 5000,), (0,) * 11 + (21,), b"a", set())
STRANGE = (None, True, False, 0, 1, -1, 1.5, "", "put", "take", "has", b"put", [], ["put", ("a",), 1], ["has", ()], {},
           {"put": 1}, {"has"}, set(), frozenset(), len, int, range(3), Put(("a",), 1), Has(()), 10 ** 5000)


class Unequal:
    """A thing that can't be held against another, nor be looked up."""

    __hash__ = None

    def __eq__(self, other):
        raise RuntimeError("not to be compared")


class RowCase(Case):
    def deeds(self, row):
        """The deed of a row, and the one that is made of what follows its word."""
        return [deed_of(row), CLASSES[row[0]](*row[1:])]

    def does(self, row, doc, expected):
        for deed in self.deeds(row):
            self.told(deed.done(doc), expected)

    def unfit(self, row, doc):
        for deed in self.deeds(row):
            self.refused(NoFit, 0, deed.done, doc)
            self.told(deed.told(), row)

    def no_row(self, thing, place):
        with self.subTest(thing=thing, place=place):
            self.refused(NoRow, place, deed_of, thing)


class Doing(RowCase):
    def test_put(self):
        self.does(("put", ("a",), 5), {}, {"a": 5})
        self.does(("put", (1,), [6]), [1, 2], [1, [6], 2])
        self.does(("put", (2,), "x"), [1, 2], [1, 2, "x"])
        self.does(("put", (0, "b"), {}), [{"a": 1}], [{"a": 1, "b": {}}])
        for doc in ({"a": 1}, [], 5, "a"):
            self.unfit(("put", ("a",), 5), doc)
        for doc in ([1], {}, 5, ""):
            self.unfit(("put", (2,), 5), doc)

    def test_take(self):
        self.does(("take", ("a",)), {"a": 5, "b": 6}, {"b": 6})
        self.does(("take", (0,)), [5, 6], [6])
        self.does(("take", (1, "a", 0)), [5, {"a": [7]}], [5, {"a": []}])
        for doc in ({"b": 1}, {}, [1], 5, "a"):
            self.unfit(("take", ("a",)), doc)
        for doc in ([1], [], {"a": 1}, 5, "ab"):
            self.unfit(("take", (1,)), doc)

    def test_change(self):
        self.does(("change", ("a",), 5), {"a": 6, "b": 7}, {"a": 5, "b": 7})
        self.does(("change", (1,), {}), [1, [2], 3], [1, {}, 3])
        for doc in nested():
            self.does(("change", (), [9]), doc, [9])
        for doc in ({"b": 1}, {}, [1], 5, "a"):
            self.unfit(("change", ("a",), 5), doc)
        self.unfit(("change", (1,), 5), [1])

    def test_move(self):
        self.does(("move", ("a",), ("b",)), {"a": 5}, {"b": 5})
        self.does(("move", ("a", 0), ("b",)), {"a": [5, 6]}, {"a": [6], "b": 5})
        self.does(("move", ("a",), ("b", 1)), {"a": 5, "b": [6]}, {"b": [6, 5]})
        self.does(("move", ("a",), ("a",)), {"a": [5]}, {"a": [5]})
        self.does(("move", (0, 0), (0,)), [[5, 6], 7], [5, [6], 7])
        self.unfit(("move", ("a",), ("b",)), {"a": 5, "b": 6})
        self.unfit(("move", ("a",), ("b",)), {"c": 5})
        self.unfit(("move", ("a",), ("b",)), [5])
        self.unfit(("move", ("a", "b"), ("a",)), {"a": {"b": 1}})

    def test_a_moves_to_is_counted_in_what_is_left(self):
        self.does(("move", (0,), (2,)), [5, 6, 7], [6, 7, 5])
        self.does(("move", (0,), (1,)), [5, 6, 7], [6, 5, 7])
        self.does(("move", (2,), (0,)), [5, 6, 7], [7, 5, 6])
        self.does(("move", (1,), (1,)), [5, 6, 7], [5, 6, 7])
        self.unfit(("move", (0,), (3,)), [5, 6, 7])
        self.does(("move", (0,), (0, 1)), [5, [6]], [[6, 5]])
        self.does(("move", (0,), (0, "a")), [5, {}, 6], [{"a": 5}, 6])
        self.unfit(("move", (0,), (1, 0)), [5, [6]])
        self.does(("move", (1,), (0, 0)), [[5], [6]], [[[6], 5]])

    def test_copy(self):
        self.does(("copy", ("a",), ("b",)), {"a": [5]}, {"a": [5], "b": [5]})
        self.does(("copy", (0,), (2,)), [5, 6], [5, 6, 5])
        self.does(("copy", ("a",), ("a", "b")), {"a": {}}, {"a": {"b": {}}})
        self.does(("copy", (0,), (0, 0)), [[1]], [[[1], 1]])
        self.unfit(("copy", ("a",), ("b",)), {"a": 1, "b": 1})
        self.unfit(("copy", ("a",), ("b",)), {"c": 1})
        self.unfit(("copy", ("a",), ("a",)), {"a": 1})
        self.unfit(("copy", (0,), (3,)), [5, 6])

    def test_copy_of_the_whole(self):
        self.does(("copy", (), ("a",)), {"b": [1]}, {"b": [1], "a": {"b": [1]}})
        self.does(("copy", (), (0,)), [], [[]])
        self.does(("copy", (), (1, 0)), [5, []], [5, [[5, []]]])
        self.unfit(("copy", (), ("a",)), 5)
        self.unfit(("copy", (), ("a",)), {"a": 1})

    def test_ask(self):
        for doc, again in zip(nested(), nested()):
            self.does(("ask", (), again), doc, doc)
            self.does(("ask", (0,), again), [doc, 1], [doc, 1])
            self.does(("ask", ("a",), again), {"b": 2, "a": doc}, {"a": doc, "b": 2})
            for number, other in enumerate(nested()):
                if not alike(doc, other):
                    self.unfit(("ask", (), other), doc)
                    self.unfit(("ask", (0,), other), [doc])
        self.does(("ask", (), {"a": 1, "b": {"d": 2, "c": 3}}), {"b": {"c": 3, "d": 2}, "a": 1},
                  {"a": 1, "b": {"c": 3, "d": 2}})

    def test_ask_for_what_is_nearly_there(self):
        for one, other in (([], {}), ([], ""), (0, ""), (0, []), ("", {}), ([1], [1, 2]), ([1, 2], [2, 1]), ([1], [[1]]),
                           ({"a": 1}, {"b": 1}), ({"a": 1}, {"a": 1, "b": 1}), ({"a": 1}, {"a": 2}), (1, -1),
                           ("ab", "a"), ([1, [2, [3]]], [1, [2, [4]]]), ({"a": {"b": []}}, {"a": {"b": {}}})):
            self.unfit(("ask", (), one), other)
            self.unfit(("ask", (), other), one)
            self.unfit(("ask", ("a", 0), one), {"a": [other]})
        self.unfit(("ask", ("a",), 5), {})
        self.unfit(("ask", (0,), 5), [])

    def test_has(self):
        for doc in nested():
            self.does(("has", ()), doc, doc)
            self.does(("has", (0,)), [doc], [doc])
            self.does(("has", ("a",)), {"a": doc}, {"a": doc})
            self.unfit(("has", (1,)), [doc])
            self.unfit(("has", ("b",)), {"a": doc})
            self.unfit(("has", (0,)), {"a": doc})
            self.unfit(("has", ("a",)), [doc])

    def test_lacks(self):
        self.does(("lacks", ("a",)), {}, {})
        self.does(("lacks", ("a",)), {"b": {"a": 1}}, {"b": {"a": 1}})
        self.does(("lacks", (0, "a")), [{"b": 1}], [{"b": 1}])
        for doc in ({"a": 1}, {"a": []}, [], [1], 5, "", "a"):
            self.unfit(("lacks", ("a",)), doc)
        for doc in ([], {}, [5], [[]], [{"a": 1}], {"a": {}}):
            self.unfit(("lacks", (0, "a")), doc)

    def test_is(self):
        for doc in nested():
            for kind, other, right in (("row", "table", list), ("table", "row", dict)):
                if isinstance(doc, right):
                    self.does(("is", (), kind), doc, doc)
                    self.does(("is", (1, "a"), kind), [0, {"a": doc}], [0, {"a": doc}])
                else:
                    self.unfit(("is", (), kind), doc)
                    self.unfit(("is", (0,), kind), [doc])
        self.unfit(("is", (0,), "row"), [])
        self.unfit(("is", ("a",), "table"), {})

    def test_each_row_about_each_document(self):
        words = set()
        for doc in nested():
            for row in rows_about(doc, [8, {"c": "d"}]):
                words.add(row[0])
                for other in (doc, [doc], {"a": doc}, 7):
                    with self.subTest(row=row, doc=other):
                        try:
                            expected = by_hand(row, other)
                        except Misfit:
                            self.unfit(row, other)
                        else:
                            self.does(row, other, expected)
        self.assertEqual(words, set(WORDS))

    def test_greater_and_deeper_than_is_handed_in(self):
        deep = []
        for level in range(3000):
            deep = put_at([], (0,), deep)
            if level % 1000 == 0:
                deep = deed_of(("copy", (), (0,))).done(deep)
        other = deed_of(("change", (0,) * 12, "end")).done(deep)
        self.assertEqual(len(deed_of(("ask", (), deep)).done(deep)), len(deep))
        self.assertEqual(len(deed_of(("put", ("a",), deep)).done({})["a"]), len(deep))
        self.assertEqual(len(deed_of(("put", ("a",), deep)).told()), 3)
        with self.assertRaises(NoFit):
            deed_of(("ask", (), other)).done(deep)
        with self.assertRaises(NoFit):
            deed_of(("ask", (), deep)).done([deep])


class Telling(RowCase):
    def test_the_row_and_its_class(self):
        for doc in nested():
            for row in rows_about(doc, [8, {"c": "d"}]):
                for deed in self.deeds(row):
                    self.told(deed.told(), row)
                    self.assertIs(type(deed), CLASSES[row[0]])
                    self.assertIsInstance(deed, Deed)

    def test_all_stand_under_deed_and_none_under_another_one(self):
        for one in CLASSES.values():
            self.assertTrue(issubclass(one, Deed))
            for other in CLASSES.values():
                self.assertEqual(issubclass(one, other), one is other)

    def test_a_deed_is_not_changed_by_what_is_asked_of_it(self):
        doc = {"a": [1], "b": {"c": [2]}}
        for row in rows_about(doc, [[8], {"c": [9]}]):
            for deed in self.deeds(row):
                for other in (doc, {"x": [3]}, 5, doc):
                    try:
                        spoil_all(deed.done(twin(other)))
                    except NoFit:
                        pass
                    spoil_all(deed.told())
                self.told(deed.told(), row)
                self.told(self.outcome(deed, doc), self.outcome(deed_of(row), doc))

    def outcome(self, deed, doc):
        try:
            return deed.done(doc)
        except NoFit as error:
            return ("unfit", error.at)


class Newness(RowCase):
    DOC = {"a": [1, [2]], "b": {"c": [2]}}

    def made(self, row, doc):
        return CLASSES[row[0]](*row[1:]).done(doc)

    def made_of(self, row, doc):
        return deed_of(row).done(doc)

    def told_of(self, row):
        return deed_of(row).told()

    def test_what_is_done_and_told_is_new(self):
        for row in rows_about(self.DOC, [[8], {"c": [8]}]):
            is_new_through_and_through(self, self.told_of, [row])
            try:
                by_hand(row, self.DOC)
            except Misfit:
                continue
            is_new_through_and_through(self, self.made_of, [row, self.DOC])
            is_new_through_and_through(self, self.made, [row, self.DOC])

    def test_the_value_is_changed_behind_the_making(self):
        for word, path in (("put", ("x",)), ("change", ("a",)), ("ask", ("a",))):
            for value in ([1, [2]], {"c": [[1]]}, [], {}):
                row = (word, path, twin(value))
                deeds = self.deeds(row)
                outcomes = [deed.told() for deed in deeds]
                spoil_all(row)
                for deed, outcome in zip(deeds, outcomes):
                    self.told(deed.told(), (word, path, value))
                    self.told(outcome, (word, path, value))
        value = [1, [2]]
        deeds = self.deeds(("put", ("x",), value)) + self.deeds(("change", ("b",), value))
        asking = self.deeds(("ask", ("a",), value))
        spoil_all(value)
        for deed, name in zip(deeds, "xxbb"):
            self.told(deed.done(self.DOC)[name], [1, [2]])
        for deed in asking:
            self.told(deed.done(self.DOC), self.DOC)

    def test_one_value_for_two_deeds(self):
        value = [[1]]
        one, other = deed_of(("put", ("x",), value)), deed_of(("put", ("x",), value))
        spoil_all(one.done({}))
        spoil_all(one.told())
        self.told(other.done({}), {"x": [[1]]})
        self.told(one.done({}), {"x": [[1]]})

    def test_wrong_rows_are_as_they_were(self):
        for thing in (["put", ("a",), [1]], ("put", ("a",), [None, [1]]), ("put", ["a"], [1]), ("no", [1]), ([1],),
                      ("is", (), ["row"]), ("move", ("a",), ["b"]), ("put", ("a",), {"a": [1], "": 1})):
            stays_as_it_was(self, self.surely_refused, [thing])

    def surely_refused(self, thing):
        with self.assertRaises(NoRow):
            deed_of(thing)


class NoRows(RowCase):
    def test_no_tuple(self):
        for thing in STRANGE:
            self.no_row(thing, 0)
        for doc in nested():
            self.no_row(doc, 0)

    def test_no_things(self):
        self.no_row((), 0)

    def test_no_word(self):
        for word in STRANGE + tuple(nested()) + ("Put", "puts", "pu", "PUT", "ask ", " has", "given", "copy_of", ("put",)):
            if word not in ("put", "take", "has"):
                for things in ((), (("a",),), (("a",), 1), (("a",), ("b",)), ((),), ((), "row"), (None,), (None, None)):
                    self.no_row((word,) + things, 0)

    def test_a_word_that_cannot_be_compared(self):
        for things in ((), (("a",),), (("a",), 1)):
            with self.assertRaises(NoRow) as caught:
                deed_of((Unequal(),) + things)
            self.assertEqual(caught.exception.at, 0)

    def test_not_as_many_things(self):
        two = ("take", "has", "lacks")
        for word in WORDS:
            right = 1 if word in two else 2
            for count in (0, 1, 2, 3, 4, 40):
                if count != right:
                    for thing in (("a",), None, (), "row", 1):
                        self.no_row((word,) + (thing,) * count, 0)
            self.no_row((word, ("a",), ("b",), ("c",)), 0)

    def rows_with(self, path):
        """Rows of all nine words with this path in the first place."""
        return [("put", path, 1), ("take", path), ("change", path, 1), ("move", path, ("z",)), ("copy", path, ("z",)),
                ("ask", path, 1), ("has", path), ("lacks", path), ("is", path, "row")]

    def test_no_path_in_the_first_place(self):
        for path in NO_PATHS:
            for row in self.rows_with(path):
                self.no_row(row, 1)

    def test_the_whole_in_the_first_place(self):
        for row in self.rows_with(()):
            if row[0] in ("put", "take", "move", "lacks"):
                self.no_row(row, 1)
            else:
                self.told(deed_of(row).told(), row)

    def test_lacks_whose_last_step_is_a_place(self):
        for path in ((0,), (20,), ("a", 0), ("a", "b", 3), (0, 0), ("a",) * 11 + (0,)):
            self.no_row(("lacks", path), 1)
        for path in (("a",), (0, "a"), ("a", 0, "abcdefgh"), (0,) * 11 + ("a",)):
            self.told(deed_of(("lacks", path)).told(), ("lacks", path))

    def test_the_longest_path_and_the_greatest_place(self):
        for path in (("a",) * 12, (0,) * 11 + ("a",), (20,) * 11 + ("b",), (19, 20, "abcdefgh"), ("a", 20, "b")):
            for row in self.rows_with(path):
                self.told(deed_of(row).told(), row)
        for path in ((20,), (0,) * 12, (20,) * 12, ("a",) * 11 + (20,)):
            for row in self.rows_with(path):
                if row[0] != "lacks":
                    self.told(deed_of(row).told(), row)

    def test_to_of_the_longest_path_and_the_greatest_place(self):
        for to in (("b",) * 12, (20,), (20,) * 12, ("b", 20), (0,) * 12):
            for word in ("move", "copy"):
                self.told(deed_of((word, ("a",), to)).told(), (word, ("a",), to))

    def test_no_to_in_the_second_place(self):
        for to in NO_PATHS + ((),):
            for path in (("a",), (0,), ("a", 0)):
                self.no_row(("move", path, to), 2)
                self.no_row(("copy", path, to), 2)
            self.no_row(("copy", (), to), 2)

    def test_no_document_in_the_second_place(self):
        for word in ("put", "change", "ask"):
            for thing in NO_DOCS:
                self.no_row((word, ("a",), thing), 2)
            for doc in nested():
                self.told(deed_of((word, ("a",), doc)).told(), (word, ("a",), doc))

    def test_no_kind_in_the_second_place(self):
        for kind in ("number", "text", "", "Row", "rows", "tables", "row ", None, True, 0, 1, (), ("row",), ["row"], [],
                     {}, {"row": 1}, {"row"}, b"row", list, dict):
            self.no_row(("is", (), kind), 2)
            self.no_row(("is", ("a",), kind), 2)
        with self.assertRaises(NoRow) as caught:
            deed_of(("is", (), Unequal()))
        self.assertEqual(caught.exception.at, 2)

    def test_a_move_into_what_it_takes_by_a_name(self):
        for path in (("a",), (0, "a"), ("a", "b"), ("a", 0, "b"), ("a",) * 11):
            for behind in (("c",), (0,), ("a",), (20,)):
                self.no_row(("move", path, path + behind), 2)
        for to in (("a", "b", 0), ("a", "b", "c", 4, "d"), ("a", "b") * 6):
            self.no_row(("move", ("a", "b"), to), 2)

    def test_moves_that_are_rows_all_the_same(self):
        for path, to in ((("a",), ("a",)), (("a", "b"), ("a",)), ((0,), (0, 1)), ((0,), (0, "a", 3)), (("a", 0), ("a", 0)),
                         (("a", 0), ("a", 0, "b")), (("a",), ("aa", "b")), (("a",), ("b", "a")), (("a", "b"), ("a", "c")),
                         (("a", "b"), ("b", "a", "b")), (("a",) * 12, ("a",) * 12), ((0, "a"), (1, "a", "b"))):
            self.told(deed_of(("move", path, to)).told(), ("move", path, to))
        for path, to in ((("a",), ("a", "b")), ((), ("a",)), (("a", "b"), ("a", "b", 0))):
            self.told(deed_of(("copy", path, to)).told(), ("copy", path, to))

    def test_the_least_place_of_several(self):
        for path in NO_PATHS + ((),):
            for thing in (None, (), "number", ("A",), 1.5):
                for word in ("put", "move"):
                    self.no_row((word, path, thing), 1)
                if path != ():
                    for word in ("change", "ask", "copy", "is"):
                        self.no_row((word, path, thing), 1)
        self.no_row(("puts", None, None), 0)
        self.no_row(("put", None), 0)
        self.no_row(("put", None, None, None), 0)
        self.no_row(("move", ("a", 21), ("a", 21, "b")), 1)
        self.no_row(("move", ("a",) * 12, ("a",) * 13), 2)


if __name__ == "__main__":
    unittest.main()
