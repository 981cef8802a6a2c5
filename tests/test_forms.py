"""Forms: [6.1] to [6.5], and of [0.6] and [0.7] what they say of them."""

import random
import unittest

from askings import is_good, lets, small_docs
from cases import Case
from makings import is_settled, is_some_from, make, nodes, tell_apart
from patchbough.backs import back_of, sealed
from patchbough.errors import NoFit
from patchbough.forms import form_done, form_fits, form_of, identity
from patchbough.least import least_size
from patchbough.patches import Patch
from reckoned import Misfit, all_by_hand, blind_rows, neighbours, outcome, rows_about, wild_rows
from samples import is_new_through_and_through, nested, spoil_all, twin

ANY = ("any",)
SELF = ("from", ())
ANY_ROW = ("row", [], True)
ANY_TABLE = ("table", {}, [], True)
HAS = ("has", ())


def just(doc):
    return ("just", doc)


def part(*path):
    return ("from", path)


def row(*cells, more=True):
    return ("row", list(cells), more)


def table(lacking=(), more=True, **names):
    return ("table", names, list(lacking), more)


def rows_of(*cells, tail=None):
    return ("row", list(cells), tail)


def names_of(rest=None, **names):
    return ("table", names, rest)


class FormCase(Case):
    def form(self, rows, asks, makes):
        """The form of these rows is this one, and it does what the rows do."""
        self.told(form_of(Patch(rows)), (asks, makes))
        self.does_the_same(rows, [])

    def does_the_same(self, rows, docs):
        """The form does what the rows do to each document: those that the asks let in, those near them, and these."""
        form = form_of(Patch(rows))
        let_in = [] if form is None else tell_apart(form[0])
        for doc in let_in:
            self.assertIsNotNone(outcome(rows, doc), (rows, doc))
        for doc in let_in + [near for doc in let_in[:2] for near in neighbours(doc)] + docs:
            behind = outcome(rows, doc)
            self.told(form_fits(form, doc), behind is not None)
            if behind is None:
                self.refused(NoFit, 0, form_done, form, doc)
            else:
                self.assertTrue(lets(form[0], doc))
                self.told(form_done(form, doc), behind)
                self.told(make(form[1], form[0], doc), behind)
        return form


class Examples(FormCase):
    def test_of_the_document(self):
        self.assertIs(form_of(Patch([("take", (0,)), ("put", ("a",), 5)])), None)
        self.form([("put", (1,), 5)], ("row", [ANY], True), ("row", [("from", (0,)), ("just", 5)], ()))
        changed = (("table", {"a": ANY}, [], True), ("table", {"a": ("just", 5)}, ()))
        self.form([("take", ("a",)), ("put", ("a",), 5)], *changed)
        self.form([("change", ("a",), 5)], *changed)
        self.form([("take", (0,)), ("ask", (), [7])], ("row", [ANY, ("just", 7)], False), ("just", [7]))
        self.form([], ANY, SELF)
        self.form([HAS], ANY, SELF)


class Words(FormCase):
    def test_put(self):
        self.form([("put", (0,), [1])], ANY_ROW, rows_of(just([1]), tail=()))
        self.form([("put", (2,), 5)], row(ANY, ANY), rows_of(part(0), part(1), just(5), tail=()))
        self.form([("put", ("a",), {"b": 5})], table(["a"]), names_of((), a=just({"b": 5})))
        self.form([("put", ("a", 1), 5)], table(a=row(ANY)),
                  names_of((), a=rows_of(part("a", 0), just(5), tail=("a",))))
        self.form([("put", (1, "b"), 5)], row(ANY, table(["b"])),
                  rows_of(part(0), names_of((1,), b=just(5)), tail=()))

    def test_take(self):
        self.form([("take", (0,))], row(ANY), rows_of(tail=()))
        self.form([("take", (1,))], row(ANY, ANY), rows_of(part(0), tail=()))
        self.form([("take", ("a",))], table(a=ANY), names_of(()))
        self.form([("take", ("a", "b"))], table(a=table(b=ANY)), names_of((), a=names_of(("a",))))

    def test_change(self):
        self.form([("change", (), [5])], ANY, just([5]))
        self.form([("change", (1,), 5)], row(ANY, ANY), rows_of(part(0), just(5), tail=()))
        self.form([("change", ("a", "b"), 5)], table(a=table(b=ANY)), names_of((), a=names_of(("a",), b=just(5))))

    def test_move(self):
        self.form([("move", (0,), (2,))], row(ANY, ANY, ANY), rows_of(part(1), part(2), part(0), tail=()))
        self.form([("move", (2,), (0,))], row(ANY, ANY, ANY), rows_of(part(2), part(0), part(1), tail=()))
        self.form([("move", (1,), (1,))], row(ANY, ANY), SELF)
        self.form([("move", ("a",), ("a",))], table(a=ANY), SELF)
        self.form([("move", ("a",), ("b",))], table(["b"], a=ANY), names_of((), b=part("a")))
        self.form([("move", (0,), (0, 1))], row(ANY, row(ANY)),
                  rows_of(rows_of(part(1, 0), part(0), tail=(1,)), tail=()))
        self.form([("move", ("a", 0), ("b",))], table(["b"], a=row(ANY)),
                  names_of((), a=rows_of(tail=("a",)), b=part("a", 0)))
        self.form([("move", ("a", "b"), ("a", "b"))], table(a=table(b=ANY)), SELF)

    def test_copy(self):
        self.form([("copy", (0,), (1,))], row(ANY), rows_of(part(0), part(0), tail=()))
        self.form([("copy", (), (0,))], ANY_ROW, rows_of(SELF, tail=()))
        self.form([("copy", (), ("a",))], table(["a"]), names_of((), a=SELF))
        self.form([("copy", ("a",), ("a", "b"))], table(a=table(["b"])), names_of((), a=names_of(("a",), b=part("a"))))
        self.form([("copy", ("a",), ("b",))], table(["b"], a=ANY), names_of((), a=part("a"), b=part("a")))
        self.form([("copy", (), (1, "a"))], row(ANY, table(["a"])),
                  rows_of(part(0), names_of((1,), a=SELF), tail=()))

    def test_ask(self):
        self.form([("ask", (), {"a": [5]})], just({"a": [5]}), just({"a": [5]}))
        self.form([("ask", ("a",), [5])], table(a=just([5])), SELF)
        self.form([("ask", (2, "a"), 5)], row(ANY, ANY, table(a=just(5))), SELF)

    def test_has(self):
        self.form([("has", (2,))], row(ANY, ANY, ANY), SELF)
        self.form([("has", ("a", 0, "b"))], table(a=row(table(b=ANY))), SELF)

    def test_lacks(self):
        self.form([("lacks", ("a",))], table(["a"]), SELF)
        self.form([("lacks", (1, "b")), ("lacks", (1, "a"))], row(ANY, table(["a", "b"])), SELF)

    def test_is(self):
        self.form([("is", (), "row")], ANY_ROW, SELF)
        self.form([("is", (), "table")], ANY_TABLE, SELF)
        self.form([("is", ("a", 0), "row")], table(a=row(ANY_ROW)), SELF)


class Growing(FormCase):
    def test_what_has_to_be_there_and_what_to_lack(self):
        self.form([("has", ("a",)), ("lacks", ("c",)), ("has", ("b",)), ("lacks", ("aa",))],
                  table(["aa", "c"], a=ANY, b=ANY), SELF)
        self.form([("has", (0,)), ("has", (2,)), ("has", (1,))], row(ANY, ANY, ANY), SELF)
        for rows in ([("has", ("a",)), ("lacks", ("a",))], [("lacks", ("a",)), ("has", ("a",))],
                     [("is", (), "row"), ("is", (), "table")], [("has", (0,)), ("lacks", ("a",))],
                     [("ask", (0,), 5), ("has", (0, 0))], [("ask", (), [5]), ("has", (1,))],
                     [("ask", ("a",), {}), ("has", ("a", "b"))], [("ask", ("a",), {"b": 5}), ("lacks", ("a", "b"))],
                     [("ask", (), 5), ("ask", (), 6)], [("ask", (), []), ("is", (), "table")],
                     [("has", (1,)), ("ask", (), [5])], [("lacks", ("a",)), ("ask", (), {"a": 5})]):
            self.assertIs(form_of(Patch(rows)), None, rows)

    def test_a_name_that_was_taken_is_lacking(self):
        taken = (table(a=ANY), names_of(()))
        self.form([("take", ("a",)), ("lacks", ("a",))], *taken)
        self.form([("take", ("a",)), ("put", ("a",), 5), ("take", ("a",))], *taken)
        self.form([("move", ("a",), ("b",)), ("lacks", ("a",))], table(["b"], a=ANY), names_of((), b=part("a")))
        self.form([("move", ("a",), ("b",)), ("move", ("b",), ("a",))], table(["b"], a=ANY), SELF)
        for rows in ([("take", ("a",)), ("has", ("a",))], [("take", ("a",)), ("take", ("a",))],
                     [("take", ("a",)), ("ask", (), {"a": 5})], [("move", ("a",), ("b",)), ("has", ("a",))]):
            self.assertIs(form_of(Patch(rows)), None, rows)

    def test_what_was_put_is_there(self):
        put = (table(["a"]), names_of((), a=just([5])))
        self.form([("put", ("a",), [5]), ("has", ("a", 0))], *put)
        self.form([("put", ("a",), [5]), ("ask", ("a",), [5]), ("is", ("a",), "row"), ("ask", ("a", 0), 5)], *put)
        self.form([("put", ("a",), [5]), ("take", ("a",))], table(["a"]), SELF)
        self.form([("put", (0,), 5), ("take", (0,))], ANY_ROW, SELF)
        self.form([("put", ("a",), []), ("put", ("a", 0), {}), ("put", ("a", 0, "b"), 5)],
                  table(["a"]), names_of((), a=just([{"b": 5}])))
        for rows in ([("put", ("a",), 5), ("lacks", ("a",))], [("put", ("a",), 5), ("put", ("a",), 5)],
                     [("put", ("a",), [5]), ("has", ("a", 1))], [("put", ("a",), [5]), ("ask", ("a",), [6])],
                     [("put", ("a",), [5]), ("is", ("a",), "table")], [("put", ("a",), 5), ("has", ("a", 0))],
                     [("put", ("a",), {}), ("has", ("a", "b"))], [("put", (0,), 5), ("ask", (0,), "x")]):
            self.assertIs(form_of(Patch(rows)), None, rows)

    def test_places_behind_what_was_taken_and_put(self):
        self.form([("take", (0,)), ("has", (1,))], row(ANY, ANY, ANY), rows_of(part(1), part(2), tail=()))
        self.form([("put", (0,), 5), ("ask", (1,), 6)], row(just(6)), rows_of(just(5), just(6), tail=()))
        self.form([("put", (1,), 5), ("has", (1,))], row(ANY), rows_of(part(0), just(5), tail=()))
        self.form([("take", (1,)), ("put", (3,), 5)], row(ANY, ANY, ANY, ANY),
                  rows_of(part(0), part(2), part(3), just(5), tail=()))
        self.form([("take", (0,))] * 3, row(ANY, ANY, ANY), rows_of(tail=()))

    def test_ask_of_a_row_of_which_parts_were_put_or_moved(self):
        self.form([("put", (1,), 5), ("ask", (), [6, 5, 7])], just([6, 7]), just([6, 5, 7]))
        self.form([("move", (0,), (1,)), ("ask", (), [6, 7])], just([7, 6]), just([6, 7]))
        self.form([("take", (0,)), ("ask", (), [])], row(ANY, more=False), just([]))
        self.form([("take", (1,)), ("ask", (), [5])], row(just(5), ANY, more=False), just([5]))
        self.form([("change", (0,), 5), ("ask", (), [5, {"a": 6}])], row(ANY, just({"a": 6}), more=False),
                  just([5, {"a": 6}]))
        self.form([("put", (0, 0), 5), ("ask", (0,), [5])], row(just([])), rows_of(just([5]), tail=()))
        for rows in ([("put", (1,), 5), ("ask", (), [6, 7])], [("put", (1,), 5), ("ask", (), [6])],
                     [("put", (0,), 5), ("ask", (), {})], [("put", (0,), 5), ("ask", (), 5)],
                     [("ask", (0,), 6), ("put", (0,), 5), ("ask", (), [5, 7])]):
            self.assertIs(form_of(Patch(rows)), None, rows)

    def test_ask_of_a_table_of_which_parts_were_put_or_moved(self):
        self.form([("put", ("a",), 5), ("ask", (), {"a": 5, "b": 6})], just({"b": 6}), just({"a": 5, "b": 6}))
        self.form([("take", ("a",)), ("ask", (), {"b": 6})], table(more=False, a=ANY, b=just(6)), just({"b": 6}))
        self.form([("take", ("a",)), ("ask", (), {})], table(more=False, a=ANY), just({}))
        self.form([("move", ("a",), ("b",)), ("ask", (), {"b": 5, "c": 6})], just({"a": 5, "c": 6}),
                  just({"b": 5, "c": 6}))
        self.form([("change", ("a",), 5), ("ask", (), {"a": 5, "b": []})], table(more=False, a=ANY, b=just([])),
                  just({"a": 5, "b": []}))
        for rows in ([("put", ("a",), 5), ("ask", (), {"a": 6})], [("put", ("a",), 5), ("ask", (), {"b": 5})],
                     [("take", ("a",)), ("ask", (), {"a": 5})], [("put", ("a",), 5), ("ask", (), [5])],
                     [("lacks", ("b",)), ("put", ("a",), 5), ("ask", (), {"a": 5, "b": 5})]):
            self.assertIs(form_of(Patch(rows)), None, rows)

    def test_ask_of_an_open_row_and_table(self):
        self.form([("has", (1,)), ("ask", (), [5, 6, 7])], just([5, 6, 7]), just([5, 6, 7]))
        self.form([("has", ("a",)), ("ask", (), {"a": 5, "b": 6})], just({"a": 5, "b": 6}), just({"a": 5, "b": 6}))
        self.form([("has", ("a", 1)), ("ask", ("a",), [5, 6])], table(a=just([5, 6])), SELF)

    def test_what_was_put_deep_within(self):
        self.form([("put", ("a", "b"), 5), ("ask", ("a",), {"b": 5}), ("put", ("a", "c"), [])], table(a=just({})),
                  names_of((), a=just({"b": 5, "c": []})))
        self.form([("change", ("a",), [1, [2]]), ("take", ("a", 0)), ("put", ("a", 0, 1), 3)],
                  table(a=ANY), names_of((), a=just([[2, 3]])))


class Copies(FormCase):
    def test_both_want_it_of_the_same_part(self):
        copy = ("copy", ("a",), ("b",))
        twice = names_of((), a=part("a"), b=part("a"))
        self.form([copy, ("has", ("b", 0))], table(["b"], a=row(ANY)), twice)
        self.form([copy, ("has", ("b", 0)), ("has", ("a", 1))], table(["b"], a=row(ANY, ANY)), twice)
        self.form([copy, ("ask", ("b", 0), 5), ("ask", ("a", 1), 6)], table(["b"], a=row(just(5), just(6))), twice)
        self.form([copy, ("ask", ("b",), [5])], table(["b"], a=just([5])), names_of((), a=just([5]), b=just([5])))
        for rows in ([copy, ("has", ("a", 0)), ("has", ("b", "c"))], [copy, ("ask", ("a",), 5), ("ask", ("b",), 6)],
                     [copy, ("ask", ("a", 0), 5), ("ask", ("b", 0), 6)],
                     [copy, ("lacks", ("a", "c")), ("has", ("b", "c"))]):
            self.assertIs(form_of(Patch(rows)), None, rows)

    def test_one_copy_is_changed_and_more_is_wanted_of_the_other(self):
        copy = ("copy", ("a",), ("b",))
        self.form([copy, ("take", ("b", 0)), ("has", ("a", 2))], table(["b"], a=row(ANY, ANY, ANY)),
                  names_of((), a=part("a"), b=rows_of(part("a", 1), part("a", 2), tail=("a",))))
        self.form([copy, ("take", ("b", 0)), ("has", ("a", 2)), ("put", ("b", 1), 5)],
                  table(["b"], a=row(ANY, ANY, ANY)),
                  names_of((), a=part("a"), b=rows_of(part("a", 1), just(5), part("a", 2), tail=("a",))))
        self.form([copy, ("put", ("b", "x"), 5), ("has", ("a", "y"))], table(["b"], a=table(["x"], y=ANY)),
                  names_of((), a=part("a"), b=names_of(("a",), x=just(5), y=part("a", "y"))))
        self.form([copy, ("take", ("b", 0)), ("ask", ("a",), [5, 6])], table(["b"], a=just([5, 6])),
                  names_of((), a=just([5, 6]), b=just([6])))
        self.form([copy, ("take", ("b", 0)), ("ask", ("b",), [6])], table(["b"], a=row(ANY, just(6), more=False)),
                  names_of((), a=part("a"), b=just([6])))
        self.form([copy, ("take", ("b", "x")), ("ask", ("b",), {"y": 6}), ("ask", ("a", "x"), 5)],
                  table(["b"], a=just({"x": 5, "y": 6})),
                  names_of((), a=just({"x": 5, "y": 6}), b=just({"y": 6})))

    def test_the_whole_document_into_itself(self):
        whole = ("copy", (), ("a",))
        self.form([whole, whole[:2] + (("b",),)], table(["a", "b"]),
                  names_of((), a=SELF, b=names_of((), a=SELF)))
        self.form([whole, ("ask", (), {"a": {"b": 1}, "b": 1})], just({"b": 1}), just({"a": {"b": 1}, "b": 1}))
        self.assertIs(form_of(Patch([whole, ("ask", (), {"a": {"b": 1}, "b": 2})])), None)
        self.assertIs(form_of(Patch([whole, ("has", ("a", "a"))])), None)
        self.form([whole, ("ask", ("a", "b"), 5), ("lacks", ("c",))], table(["a", "c"], b=just(5)),
                  names_of((), a=SELF, b=just(5)))
        self.form([("copy", (), (0,)), ("take", (1,)), ("has", (0, 1))], row(ANY, ANY), rows_of(SELF, part(1), tail=()))
        self.form([("copy", (), (0,)), ("take", (0, 0)), ("put", (1,), 6)], row(ANY),
                  rows_of(rows_of(tail=()), just(6), part(0), tail=()))

    def test_three_copies(self):
        self.form([("copy", (), (0,))] * 3, ANY_ROW,
                  rows_of(rows_of(rows_of(SELF, tail=()), SELF, tail=()), rows_of(SELF, tail=()), SELF, tail=()))
        self.form([("copy", (0,), (1,)), ("copy", (1,), (2,)), ("copy", (2,), (0,)), ("ask", (3,), 5)],
                  row(just(5)), rows_of(just(5), just(5), just(5), just(5), tail=()))
        rows = [("copy", ("a",), ("b",)), ("copy", ("b",), ("c",)), ("copy", ("c",), ("d",)), ("take", ("b", 0)),
                ("take", ("c", 1)), ("put", ("d", 2), 5), ("has", ("a", 3)), ("ask", ("b", 0), 6)]
        self.form(rows, table(["b", "c", "d"], a=row(ANY, just(6), ANY, ANY)), names_of(
            (), a=part("a"), b=rows_of(just(6), part("a", 2), part("a", 3), tail=("a",)),
            c=rows_of(part("a", 0), part("a", 2), part("a", 3), tail=("a",)),
            d=rows_of(part("a", 0), just(6), just(5), part("a", 2), part("a", 3), tail=("a",))))

    def test_a_part_that_moves_while_more_is_asked(self):
        # The part that was taken goes with what is asked of its copy on the way to where it comes.
        self.form([("copy", ("a",), ("b",)), ("take", ("a", 0)), ("move", ("a",), ("b", 2))],
                  table(["b"], a=row(ANY, ANY)),
                  names_of((), b=rows_of(part("a", 0), part("a", 1), rows_of(part("a", 1), tail=("a",)), tail=("a",))))
        self.form([("copy", ("a",), ("b",)), ("take", ("a", "x")), ("move", ("a",), ("b", "y"))],
                  table(["b"], a=table(["y"], x=ANY)),
                  names_of((), b=names_of(("a",), x=part("a", "x"), y=names_of(("a",)))))
        self.form([("copy", ("a",), ("b",)), ("take", ("a", 0)), ("copy", ("a",), ("b", 2))],
                  table(["b"], a=row(ANY, ANY)),
                  names_of((), a=rows_of(part("a", 1), tail=("a",)),
                           b=rows_of(part("a", 0), part("a", 1), rows_of(part("a", 1), tail=("a",)), tail=("a",))))


class HeldAgainstThePatch(FormCase):
    DOCS = small_docs()

    def is_a_form(self, form):
        """The form is made as it has to be."""
        asks, makes = form
        self.assertTrue(is_good(asks))
        self.assertTrue(is_settled(makes, asks))
        for node in nodes(makes):
            if node[0] in ("row", "table"):
                self.assertFalse(is_some_from(node, asks))

    def test_each_row_about_each_document(self):
        for doc in nested():
            near = [doc] + neighbours(doc)[:12]
            for one in rows_about(doc, [8, {"c": "d"}])[::7]:
                self.assertIsNotNone(self.does_the_same([one], near))

    def test_wild_rows(self):
        for seed in range(150):
            chance = random.Random(seed)
            doc = chance.choice(nested())
            rows = wild_rows(chance, doc, chance.choice((1, 2, 3, 5, 8)))
            with self.subTest(seed=seed):
                form = self.does_the_same(rows, [doc] + neighbours(doc) + chance.sample(self.DOCS, 20))
                self.is_a_form(form)

    def test_blind_rows(self):
        chance = random.Random(7)
        none, fit = 0, 0
        for number in range(800):
            rows = blind_rows(chance, chance.choice((1, 2, 2, 3, 3, 4)))
            form = self.does_the_same(rows, chance.sample(self.DOCS, 40))
            none += form is None
            if form is not None:
                fit += 1
                self.is_a_form(form)
        self.assertGreater(none, 100)
        self.assertGreater(fit, 200)


class DoneByForms(FormCase):
    def test_where_it_doesnt_fit(self):
        form = form_of(Patch([("take", ("a",))]))
        for doc in (5, "a", [], {}, {"b": 5}, ["a"]):
            self.told(form_fits(form, doc), False)
            self.refused(NoFit, 0, form_done, form, doc)
        self.told(form_fits(form, {"a": 5, "b": 6}), True)
        self.told(form_done(form, {"a": 5, "b": 6}), {"b": 6})

    def test_where_the_form_is_none(self):
        form = form_of(Patch([HAS, HAS, ("has", (0,)), ("has", ("a",))]))
        self.assertIs(form, None)
        for doc in nested():
            self.told(form_fits(form, doc), False)
            self.refused(NoFit, 0, form_done, form, doc)

    def test_what_is_done_changes_nothing_of_what_was_refused(self):
        form = form_of(Patch([("take", ("a",)), ("put", ("b", 1), [5])]))
        before = twin(form)
        doc = {"b": [[1]]}
        self.refused(NoFit, 0, form_done, form, doc)
        self.told(form, before)
        self.told(form_done(form, {"a": 1, "b": [[1]]}), {"b": [[1], [5]]})

    def test_the_identity(self):
        for doc in nested():
            self.told(identity(("just", doc)), ("just", doc))
        for asks in (ANY, ANY_ROW, ANY_TABLE, row(just(5)), row(ANY, just([]), more=False), table(["b"], a=ANY),
                     table(more=False, a=ANY)):
            self.told(identity(asks), SELF)


class ThereAndBack(FormCase):
    def back_to_itself(self, rows, doc):
        seal = sealed(Patch(rows), doc)
        back = back_of(seal, doc)
        if len(seal.rows()) + len(back.rows()) > 40:
            return 0
        asks = form_of(seal)[0]
        self.told(form_of(seal.joined(back)), (asks, identity(asks)))
        return 1

    def test_each_row_about_each_document(self):
        for doc in nested():
            for one in rows_about(doc, [8])[::3]:
                try:
                    all_by_hand([one], doc)
                except Misfit:
                    continue
                with self.subTest(doc=doc, row=one):
                    self.assertEqual(self.back_to_itself([one], doc), 1)

    def test_wild_patches(self):
        done = 0
        for seed in range(150):
            chance = random.Random(500 + seed)
            doc = chance.choice(nested())
            rows = wild_rows(chance, doc, chance.choice((1, 2, 4, 8, 12)))
            with self.subTest(seed=seed):
                done += self.back_to_itself(rows, doc)
        self.assertGreater(done, 120)

    def test_of_a_just_and_of_others(self):
        self.back_to_itself([("change", (), 5)], {"a": [1]})
        self.told(form_of(sealed(Patch([("change", (), 5)]), {"a": [1]})), (just({"a": [1]}), just(5)))
        self.back_to_itself([("take", ("a",)), ("move", ("b",), ("a",))], {"a": [1], "b": 6, "c": 7})
        seal = sealed(Patch([("take", ("a",))]), {"a": [1], "c": 7})
        self.told(form_of(seal.joined(back_of(seal, {"a": [1], "c": 7}))), (table(a=just([1])), SELF))

    def test_what_isnt_sealed_doesnt_lead_back(self):
        patch = Patch([("take", ("a",))])
        form = form_of(patch.joined(back_of(patch, {"a": 5})))
        self.told(form, (table(a=ANY), names_of((), a=just(5))))


class Great(FormCase):
    def done(self, rows, doc):
        """The form of a great patch does what the rows do to a document that they fit."""
        form = form_of(Patch(rows))
        self.told(form_fits(form, doc), True)
        self.told(form_done(form, doc), all_by_hand(rows, doc)[-1])
        return form

    def grown(self, sizes, bottom):
        """Rows of so many cells within the last cells of one another."""
        doc = bottom
        for size in reversed(sizes):
            doc = list(range(size - 1)) + [doc]
        return doc

    def test_nearly_a_thousand_parts(self):
        rows = [("has", (number,) + (20,) * 11) for number in range(4)]
        doc = [self.grown([21] * 11, number) for number in range(4)]
        form = self.done(rows, doc)
        self.assertEqual(least_size(form[0]), 929)
        self.told(form[1], SELF)
        takes = [("take", one[1]) for one in rows]
        form = self.done(takes, doc)
        self.assertEqual(least_size(form[0]), 929)
        self.refused(NoFit, 0, form_done, form, doc[:3])
        self.back_and_forth(takes, doc)

    def back_and_forth(self, rows, doc):
        seal = sealed(Patch(rows), doc)
        asks = form_of(seal)[0]
        self.told(form_of(seal.joined(back_of(seal, doc))), (asks, identity(asks)))

    def test_values_of_nearly_a_thousand_parts(self):
        value = [list(range(8)) for number in range(20)]
        rows = [("ask", (number,), value) for number in range(5)]
        form = self.done(rows, [value] * 5)
        self.assertEqual(least_size(form[0]), 906)
        self.done(rows + [("take", (0, 19)), ("ask", (0,), value[:19])], [value] * 5)
        self.assertIs(form_of(Patch(rows + [("take", (0, 19)), ("ask", (0,), value)])), None)
        self.back_and_forth([("take", (0,))] * 5, [value] * 5)

    def test_hundreds_of_names(self):
        names = [first + second for first in "abcdefghijklmnop" for second in "xyz"]
        rows = [("has", (name,) * 12) for name in names[:40]]
        doc = {}
        for name in names[:40]:
            inner = 5
            for step in range(11):
                inner = {name: inner}
            doc[name] = inner
        form = self.done(rows, doc)
        self.assertEqual(least_size(form[0]), 481)
        self.done([("take", one[1]) for one in rows], doc)

    def test_forty_rows_with_three_copies(self):
        value = [[number] for number in range(99)]
        copies = [("copy", (), (0,))] * 3
        puts = [("put", (number,), value) for number in range(18)]
        doc = [[5], 6]
        form = self.done(copies + puts + [("take", (20,)), ("change", (3, 0), [5]), ("has", (0, 0)), ("is", (), "row")]
                         + [("put", (20, 0), "x")] * 15, doc)
        self.told(form[0], row(ANY_ROW))
        self.done(puts + copies + [("take", (0, 0, 0))] * 19, doc)
        self.done([("copy", (), (0,)), ("take", (1,))] + [("has", (0, number)) for number in range(18)]
                  + [("copy", (0,), (1,)), ("copy", (), (1, 2))] + [("ask", (0, number), number) for number in range(18)],
                  list(range(20)))

    def test_wild_patches_of_forty_rows(self):
        for seed in range(6):
            chance = random.Random(seed)
            doc = {"a": [1, {"b": 2}], "c": 3, "d": [[], {}]}
            rows = wild_rows(chance, doc, 40)
            form = self.done(rows, doc)
            for near in neighbours(doc):
                self.told(form_fits(form, near), outcome(rows, near) is not None)

    def test_deep(self):
        value = 5
        for level in range(400):
            value = [value] if level % 2 else {"a": value}
        form = form_of(Patch([("put", ("a",), value), ("copy", (), ("b",)), ("take", ("b", "a")), ("ask", ("a",), value)]))
        self.assertEqual(form[0], table(["a", "b"]))
        self.assertIsNone(form_of(Patch([("put", ("a",), value), ("ask", ("a",), [value])])))
        self.told(form_fits(form_of(Patch([("ask", (), value)])), value), True)


class Newness(FormCase):
    SHARED = [[1], {"y": [1]}]
    ROWS = [("put", ("x",), SHARED), ("ask", ("a", 1), SHARED), ("copy", ("x",), ("z",)), ("take", ("a", 0)),
            ("copy", ("a",), ("b",)), ("put", ("b", 0), SHARED), ("lacks", ("w",)), ("copy", (), ("b", 0, 1, "w"))]

    def form_of_rows(self, rows):
        return form_of(Patch(rows))

    def test_what_is_told_is_new(self):
        chance = random.Random(11)
        doc = {"a": [[], twin(self.SHARED), self.SHARED], "v": self.SHARED}
        for count in range(len(self.ROWS) + 1):
            rows = self.ROWS[:count]
            is_new_through_and_through(self, self.form_of_rows, [rows])
            form = form_of(Patch(rows))
            is_new_through_and_through(self, form_done, [form, doc])
            is_new_through_and_through(self, form_fits, [form, doc])
        for number in range(40):
            is_new_through_and_through(self, self.form_of_rows, [blind_rows(chance, 3)])
        for asks in (just(self.SHARED), just([self.SHARED, self.SHARED]), table(a=just(self.SHARED))):
            is_new_through_and_through(self, identity, [asks])

    def test_a_patch_stays_as_it_is(self):
        patch = Patch(self.ROWS)
        form = form_of(patch)
        spoil_all(form_of(patch))
        self.told(patch.rows(), self.ROWS)
        self.told(form_of(patch), form)


if __name__ == "__main__":
    unittest.main()
