"""How documents, paths and rows are written and read: [9.1] to [9.4]."""

import itertools
import random
import unittest

from cases import Case
from patchbough.errors import NoText
from patchbough.texts import read_doc, read_path, read_rows, shown_doc, shown_path, shown_rows
from reckoned import WORDS, blind_rows, rows_about
from samples import chain, is_new_through_and_through, nested, twin

SIXTY = "1" + "0" * 58 + "7"
NOT_TEXTS = (None, True, False, 0, 7, -1, 1.5, [], ["1"], {}, {"a": 1}, (), ("/",), b"1", b"/", set(), len, object())

# Documents and how they are written.
WRITTEN = (
    ([1, "ab", [], {"a": -5, "b": [2]}], "[1 'ab' [] {a:-5 b:[2]}]"),
    (0, "0"), (7, "7"), (-7, "-7"), (10, "10"), (-100, "-100"), (int(SIXTY), SIXTY), (-int(SIXTY), "-" + SIXTY),
    ("", "''"), ("a", "'a'"), ("abcdefghijkl", "'abcdefghijkl'"),
    ([], "[]"), ([5], "[5]"), ([5, 6], "[5 6]"), ([[]], "[[]]"), ([[], []], "[[] []]"), ([""], "['']"),
    ({}, "{}"), ({"a": 5}, "{a:5}"), ({"b": 5, "a": 6}, "{a:6 b:5}"), ({"a": {}}, "{a:{}}"),
    ({"ab": 1, "b": 2, "a": 3, "aa": 4}, "{a:3 aa:4 ab:1 b:2}"), ({"abcdefgh": "x"}, "{abcdefgh:'x'}"),
    ({"a": {"b": [1, {"c": ""}], "a": -1}}, "{a:{a:-1 b:[1 {c:''}]}}"),
)

# Texts that write no document.
NO_DOCS = (
    "", " ", "  ", "a", "abc", "A", "'", "'a", "a'", "'A'", "'a b'", "'1'", "''a", "'''", "'abcdefghijklm'", '"a"', "'-'",
    "-", "--1", "-0", "00", "01", "007", "-01", "+1", "1.5", "1 ", " 1", "1 2", "1-", "1a", "0x1", "1_0", "1e3", "0-1",
    "[", "]", "[]]", "[[]", "[ ]", "[1 ]", "[ 1]", "[1  2]", "[1,2]", "[1, 2]", "[1\t2]", "[1\n2]", "[]\n", "\n[]", "[] ",
    " []", "[1]2", "[1 2", "[1 2}", "[1]]", "[][]", "[] []", "[a]", "[a:1]", "()", "[1;2]", "[''']", "[1 '']x",
    "{", "}", "{}}", "{ }", "{a}", "{a:}", "{:1}", "{a: 1}", "{a :1}", "{ a:1}", "{a:1 }", "{a:1  b:2}", "{a:1,b:2}",
    "{a:1 a:2}", "{b:1 a:2}", "{a:1 b}", "{a:1 b:}", "{A:1}", "{'a':1}", "{1:2}", "{a1:2}", "{abcdefghi:1}", "{a:1]", "{a:1",
    "{a:1b:2}", "{a=1}", "{a::1}", "{a:1:2}", "{a b:1}", "{aa:1 a:2}", "{b:1 aa:2}", "{a:1}{b:2}", "{a:{b:1 a:2}}", "{1}",
    "True", "None", "null", "/", "/a", "put /a 5", "\\", "%", "1" + SIXTY, "-1" + SIXTY, "[1" + SIXTY + "]",
    "{a:[1 2 {b:" + SIXTY + "0}]}", "\u00e4", "'\u00e4'", "\u0661", "[\u0661]", "1\u00a02", "[1\u00a02]", "'\u0430'",
)

# Paths and how they are written.
WRITTEN_PATHS = (
    ((), "/"), (("a",), "/a"), ((0,), "/0"), ((10,), "/10"), (("a", 0), "/a/0"), ((0, "a", 12), "/0/a/12"),
    (("abcdefgh",), "/abcdefgh"), ((int(SIXTY),), "/" + SIXTY), (("a",) * 20, "/a" * 20), ((0, 0, 0), "/0/0/0"),
    ((int(SIXTY), "b", 20), "/" + SIXTY + "/b/20"),
)

NO_PATHS = (
    "", " ", "a", "0", "ab", "10", " a", "-1", "//", "/a/", "/0/", "a/", "a/b", "//a", "/a//b", "/ ", " /", "/ a", "/a ", "/a /b", "/a/ b", "/A", "/a1",
    "/1a", "/01", "/00", "/-1", "/-0", "/+1", "/1.5", "/'a'", "/abcdefghi", "/1" + SIXTY, "/a/1" + SIXTY, "/a\n", "\n/a",
    "/1_0", "/a.b", "/[]", "/a;", "\\", "()", "/\u0661", "/\u00e4", "/a/\u00b2",
)

# Lists of rows and how they are written.
WRITTEN_ROWS = (
    ([("take", ("a", 0)), ("put", ("b",), {"c": 1})], "take /a/0; put /b {c:1}"),
    ([], ""),
    ([("put", ("a",), [1, "ab"])], "put /a [1 'ab']"), ([("take", (0,))], "take /0"),
    ([("change", (), {"a": 1, "b": ""})], "change / {a:1 b:''}"), ([("move", (0,), ("a", 2))], "move /0 /a/2"),
    ([("copy", (), ("a",))], "copy / /a"), ([("ask", ("a",), -5)], "ask /a -5"), ([("has", ())], "has /"),
    ([("lacks", ("a", "b"))], "lacks /a/b"), ([("is", (), "row")], "is / row"), ([("is", ("a",), "table")], "is /a table"),
    ([("has", ()), ("has", ()), ("has", ())], "has /; has /; has /"),
    # Whether they may stand in a patch is not asked.
    ([("put", (), 5)], "put / 5"), ([("take", ())], "take /"), ([("lacks", (0,))], "lacks /0"), ([("lacks", ())], "lacks /"),
    ([("move", ("a",), ("a", "b"))], "move /a /a/b"), ([("copy", ("a",), ())], "copy /a /"), ([("move", (), ())], "move / /"),
    ([("has", (21, 1000))], "has /21/1000"), ([("has", ("a",) * 30)], "has " + "/a" * 30),
    ([("copy", (), (0,))] * 5, "; ".join(["copy / /0"] * 5)), ([("has", ())] * 50, "; ".join(["has /"] * 50)),
)

# Single rows that aren't written as they ought to be.
NO_ROWS = (
    "", " ", "has", "has ", "has a", "has  /", " has /", "has / ", "has /;", "has /; ", "has /a/", "has / /", "has /a row",
    "has /1" + SIXTY, "hass /", "Has /", "HAS /", "ha /", "put", "put ", "put /a", "put /a ", "put  /a 5", "put /a  5",
    "put /a 5 ", "put /a 5 6", "put 5", "put 5 /a", "put /a a", "put /a /a", "put /a [1 2", "put /a {b:1 a:1}", "put /a 05",
    "take", "take /a 5", "take/a", "take /a,", "change /a", "change 5", "move /a", "move /a ", "move /a 5", "move /a b",
    "move /a /b /c", "move /a  /b", "copy /a", "copy /", "copy /a //", "ask /a", "ask /", "lacks", "lacks a", "is /", "is / ",
    "is /a number", "is /a text", "is /a Row", "is /a rows", "is /a 'row'", "is /a row ", "is row", "is /a  row", "is /a ro",
    ";", ";;", "; ", "5", "[]", "/", "nothing", "('has', ())", "has\t/", "has\n/", "has /\n", "put /a 1" + SIXTY,
)


def deep_text(depth):
    return "[" * (depth - 1) + "{}" + "]" * (depth - 1)


def few_signs(most):
    """All texts of at most so many of the signs []{}a:' 0-1 that write a document, put together by hand."""
    found = {"'" + "a" * count + "'" for count in range(most - 1)} | {"[]", "{}", "0"}
    for length in range(1, most + 1):
        found |= {str(int(figures)) for figures in map("".join, itertools.product("01", repeat=length))}
    found |= {"-" + text for text in found if text[0] == "1" and len(text) < most}
    while True:
        rows = {"[" + " ".join(cells) + "]" for count in (1, 2) for cells in itertools.product(found, repeat=count)}
        more = {text for text in rows | {"{a:" + text + "}" for text in found} | {"{aa:" + text + "}" for text in found}
                if len(text) <= most}
        if more <= found:
            return found
        found |= more


class Docs(Case):
    def test_written_and_read(self):
        for doc, text in WRITTEN:
            with self.subTest(text=text):
                self.told(shown_doc(doc), text)
                self.told(read_doc(text), doc)

    def test_what_is_shown_is_read_to_it(self):
        for doc in nested():
            self.told(read_doc(shown_doc(doc)), doc)
            self.told(read_doc(shown_doc([doc, {"a": doc, "b": [doc]}])), [doc, {"a": doc, "b": [doc]}])

    def test_the_order_of_names_counts_for_nothing(self):
        self.told(shown_doc({"c": 1, "a": {"z": 1, "y": 2}, "b": 3}), shown_doc({"a": {"y": 2, "z": 1}, "b": 3, "c": 1}))

    def test_what_writes_no_document(self):
        for text in NO_DOCS:
            with self.subTest(text=text):
                self.refused(NoText, 0, read_doc, text)
                self.refused(NoText, 0, read_doc, "[" + text + " {a:]")

    def test_what_writes_no_document_within_others(self):
        for text in NO_DOCS:
            # What is no document may be two documents, or none, where it stands in a row.
            if text != "" and not text.startswith((" ", "1 2", "[] []")) and "]" not in text and " " not in text:
                for within in ("[" + text + "]", "{a:" + text + "}", "[1 " + text + " 2]", "{a:1 b:{c:" + text + "}}"):
                    with self.subTest(text=within):
                        self.refused(NoText, 0, read_doc, within)

    def test_whatever_is_handed_in(self):
        for thing in NOT_TEXTS:
            self.refused(NoText, 0, read_doc, thing)

    def test_sixty_figures_and_sixty_one(self):
        for figures in ("9" * 60, "1" + "0" * 59, SIXTY):
            for text in (figures, "-" + figures):
                self.told(read_doc(text), int(text))
                self.told(read_doc("{a:[" + text + "]}"), {"a": [int(text)]})
                self.told(shown_doc(int(text)), text)
                self.refused(NoText, 0, read_doc, text + "0")
                self.refused(NoText, 0, read_doc, "[" + text + "0]")
        self.refused(NoText, 0, read_doc, "0" * 60)
        self.refused(NoText, 0, read_doc, "9" * 5000)

    def test_a_hundred_deep_and_deeper(self):
        for depth in (1, 2, 50, 99, 100):
            self.told(shown_doc(read_doc(deep_text(depth))), deep_text(depth))
            self.told(read_doc(deep_text(depth)), eval(deep_text(depth)))
            for doc in (chain(depth - 1, 5), chain(depth - 1, []), chain(depth - 1, {})):
                self.told(read_doc(shown_doc(doc)), doc)
        for depth in (101, 102, 150, 300):
            self.refused(NoText, 0, read_doc, deep_text(depth))
            for doc in (chain(depth - 1, 5), chain(depth - 1, []), chain(depth - 1, {})):
                self.refused(NoText, 0, read_doc, shown_doc(doc))
        for text in ("[" * 5000, "[" * 5000 + "]" * 5000, "{a:" * 5000 + "1" + "}" * 5000):
            self.refused(NoText, 0, read_doc, text)

    def test_many_beside_one_another(self):
        doc = [[[number], {"a": [], "b": "x"}] for number in range(300)]
        self.told(read_doc(shown_doc(doc)), doc)

    def test_deeper_ones_are_shown(self):
        doc = 5
        for level in range(1500):
            doc = [doc]
        self.told(shown_doc(doc), "[" * 1500 + "5" + "]" * 1500)

    def test_each_text_of_few_signs(self):
        # Of all texts of these signs up to five long just those are read that write a document.
        written = few_signs(5)
        texts = [""]
        read = set()
        for length in range(5):
            texts = [text + sign for text in texts for sign in "[]{}a:' 0-1"]
            for text in texts:
                try:
                    doc = read_doc(text)
                except NoText as refusal:
                    self.assertEqual(refusal.at, 0)
                else:
                    read.add(text)
                    self.assertEqual(shown_doc(doc), text)
        self.assertEqual(read, written)


class Paths(Case):
    def test_written_and_read(self):
        for path, text in WRITTEN_PATHS:
            with self.subTest(text=text):
                self.told(shown_path(path), text)
                self.told(read_path(text), path)

    def test_what_writes_no_path(self):
        for text in NO_PATHS:
            with self.subTest(text=text):
                self.refused(NoText, 0, read_path, text)
                if text.startswith("/"):
                    self.refused(NoText, 0, read_path, "/a" + text)

    def test_whatever_is_handed_in(self):
        for thing in NOT_TEXTS:
            self.refused(NoText, 0, read_path, thing)

    def test_sixty_figures_and_sixty_one(self):
        for figures in ("9" * 60, "1" + "0" * 59):
            self.told(read_path("/" + figures), (int(figures),))
            self.refused(NoText, 0, read_path, "/" + figures + "0")
        self.refused(NoText, 0, read_path, "/a/" + "9" * 5000)


class Rows(Case):
    def test_written_and_read(self):
        for rows, text in WRITTEN_ROWS:
            with self.subTest(text=text):
                self.told(shown_rows(rows), text)
                self.told(read_rows(text), rows)
        self.assertEqual({row[0] for rows, text in WRITTEN_ROWS for row in rows}, set(WORDS))

    def test_what_is_shown_is_read_to_it(self):
        chance = random.Random(13)
        for number in range(300):
            rows = blind_rows(chance, chance.choice((0, 1, 2, 5)))
            self.told(read_rows(shown_rows(rows)), rows)
        for doc in nested():
            rows = rows_about(doc, [8, {"c": "d"}])
            self.told(read_rows(shown_rows(rows)), rows)

    def test_what_is_no_text(self):
        for thing in NOT_TEXTS:
            self.refused(NoText, 0, read_rows, thing)

    def test_the_first_row_that_isnt_written_so(self):
        for text in NO_ROWS:
            # A row that is no row by a ; at its end has another one behind it.
            parts = text.split("; ")
            at = 0 if parts[0] != "has /" else 1
            with self.subTest(text=text):
                if text != "":
                    self.refused(NoText, at, read_rows, text)
                self.refused(NoText, 1 + at, read_rows, "has /; " + text)
                self.refused(NoText, at, read_rows, text + "; has /")
                self.refused(NoText, 3 + at, read_rows, "take /a; put /a [1 'x']; is / row; " + text + "; has /; nothing")

    def test_rows_are_parted_by_each_sign_with_a_blank(self):
        for text, at in (("has /;has /", 0), ("has / ; has /", 0), ("has /;  has /", 1), ("has /; ", 1), ("; has /", 0),
                         ("has /; ; has /", 1), ("has /;; has /", 0), ("has /; has /;", 1), ("has /,has /", 0),
                         ("has /\nhas /", 0), ("has /; has /; ", 2), (" ", 0), ("; ", 0), ("put /a '; '", 0),
                         ("has /; put /a [1; 2]; nothing", 1), ("nothing; nothing", 0)):
            with self.subTest(text=text):
                self.refused(NoText, at, read_rows, text)

    def test_a_hundred_deep_and_deeper(self):
        self.told(read_rows("has /; put /a " + deep_text(100))[1], ("put", ("a",), eval(deep_text(100))))
        self.refused(NoText, 1, read_rows, "has /; put /a " + deep_text(101))


class Newness(Case):
    def test_what_is_told_is_new(self):
        shared = [[1], {"a": [1]}]
        for doc in nested() + [[shared, shared]]:
            is_new_through_and_through(self, shown_doc, [doc])
            is_new_through_and_through(self, read_doc, [shown_doc(doc)])
            rows = [("put", ("a",), doc), ("ask", (), doc), ("change", (0,), doc), ("copy", (), ("a",))]
            is_new_through_and_through(self, shown_rows, [rows])
            is_new_through_and_through(self, read_rows, [shown_rows(rows)])
        for path, text in WRITTEN_PATHS:
            self.told(read_path(text), twin(read_path(text)))


if __name__ == "__main__":
    unittest.main()
