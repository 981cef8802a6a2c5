"""The desk: [9.21] to [9.24]."""

import random
import unittest

from cases import SEVEN, Case
from patchbough.backs import back_of
from patchbough.desk import Desk
from patchbough.errors import BoughError, Clash, NoDeed, NoFit, NoPatch, NoText
from patchbough.laid import laid
from patchbough.lean import lean
from patchbough.patches import Patch
from patchbough.same import parted_by, same
from patchbough.texts import read_doc, read_rows, shown_doc, shown_rows
from reckoned import blind_rows, outcome, wild_rows
from samples import nested

NOT_TEXTS = (None, True, False, 0, 7, 1.5, [], ["show"], {}, (), ("show",), b"show", set(), len, object())

# Lines that are none, whatever is kept.
NO_LINES = (
    "", " ", "  ", "nothing", "Show", "SHOW", "show ", " show", "show a", "show\n", "\nshow", "show  ", "shows", "doc", "Doc 5",
    " doc 5", "docs 5", "keep", "keep ", "keep a", "keep  ", "keep  a", "keep A ", "keep A has /", "keep a1 has /", "keep 1 ",
    "keep abcdefghi has /", "keep ab,c has /", " keep a has /", "Keep a has /", "keep\ta has /", "keep a\thas /", "keep /a ",
    "lay", "lay a", "lay a b", "lay a b c", "lay a b c ", "lay a b c c", "lay a b c d e", "lay a b c d ", "lay  a b c d",
    "lay a b  c d", "lay a b C d", "lay a b c D", "lay a b c abcdefghi", "lay a b a a", "lay a b c 1", "lay a b 1 c", "Lay a b c d",
    "lean", "lean a", "lean a ", "lean a b c", "lean a B", "lean a b ", "lean  a b", "lean a abcdefghi", "lean a 1",
    "do", "do ", "do  a", "do a ", "do a b", "do A", "back ", "back a", "Back", "fits", "fits ", "fits a b", "fits a ",
    "rows", "rows ", "rows a b", "rows a ", "same", "same a", "same a ", "same a b c", "same  a b", "same a b ", "part", "part a",
    "part a b a", "part a  b", "part a b ", "rows a\n", "same a\tb", "show;", "has /", "put /a 5", "[]", "do a; do b",
)

# Lines that are some where a and b are kept, with a name that is kept by none.
UNKEPT = ("lay a x c d", "lay x a c d", "lay x y c d", "lean x c", "lean x a", "do x", "fits x", "rows x", "same a x",
          "same x a", "same x x", "part a x", "part x a", "part x x")


class DeskCase(Case):
    def no_deed(self, desk, line):
        with self.assertRaises(NoDeed) as caught:
            desk.say(line)
        self.of_its_own(caught.exception, NoDeed)

    def of_its_own(self, error, kind):
        self.assertIsInstance(error, BoughError)
        self.assertNotIsInstance(error, tuple(other for other in SEVEN if other is not kind))

    def says(self, desk, *lines):
        """Lines and answers in turn."""
        for line, answer in zip(lines[::2], lines[1::2]):
            self.told(desk.say(line), answer)

    def two(self):
        """A desk with two patches, a document and a way back."""
        desk = Desk()
        self.says(desk, "doc {x:[1 2] y:'z'}", "ok", "keep a take /x/0", "ok", "keep b put /w [7]; has /x", "ok",
                  "do b", "{w:[7] x:[1 2] y:'z'}")
        return desk

    def kept(self, desk):
        """All that can be seen of what a desk keeps, without changing it."""
        told = []
        for line in ("show", "rows a", "rows b", "rows c", "rows d", "rows x", "fits a", "fits b"):
            try:
                told.append(desk.say(line))
            except NoDeed:
                told.append(None)
        return told

    def changes_nothing(self, line, kind, *fields):
        """A line is refused, with these fields, and the desk of two is as it was, the way back too."""
        desk = self.two()
        before = self.kept(desk)
        for turn in range(2):
            with self.assertRaises(kind) as caught:
                desk.say(line)
            self.of_its_own(caught.exception, kind)
            if fields:
                self.told(caught.exception.at, fields[0])
            if fields[1:]:
                self.told(caught.exception.other, fields[1])
        self.assertEqual(self.kept(desk), before)
        self.says(desk, "back", "{x:[1 2] y:'z'}")
        self.no_deed(desk, "back")


class Keeping(DeskCase):
    def test_doc(self):
        desk = Desk()
        for doc in nested():
            self.says(desk, "doc " + shown_doc(doc), "ok", "show", shown_doc(doc))

    def test_doc_leaves_no_ways_back(self):
        desk = self.two()
        self.says(desk, "doc 5", "ok", "show", "5")
        self.no_deed(desk, "back")
        self.says(desk, "keep c change / 6", "ok", "do c", "6", "back", "5")
        self.no_deed(desk, "back")
        desk = self.two()
        self.says(desk, "doc {w:[7] x:[1 2] y:'z'}", "ok")
        self.no_deed(desk, "back")

    def test_keep(self):
        desk = Desk()
        for text in ("take /a/0; put /b {c:1}", "has /", "", "is / row; lacks /a", "move /0 /2; copy / /0; ask /a ''"):
            self.says(desk, "keep a " + text, "ok", "rows a", text)

    def test_keep_without_and_with_a_blank(self):
        desk = Desk()
        self.no_deed(desk, "keep a")
        self.no_deed(desk, "rows a")
        self.says(desk, "keep a ", "ok", "rows a", "")
        self.no_deed(desk, "keep a")

    def test_a_name_kept_anew(self):
        desk = Desk()
        self.says(desk, "keep a has /", "ok", "keep b has /", "ok", "keep a take /x", "ok", "rows a", "take /x", "rows b", "has /",
                  "keep a ", "ok", "rows a", "", "keep abcdefgh has /0", "ok", "rows abcdefgh", "has /0")
        # What was done by the patch that had the name is undone all the same.
        self.says(desk, "doc [1 2]", "ok", "keep a take /0", "ok", "do a", "[2]", "keep a put /0 5", "ok", "back", "[1 2]")

    def test_the_words_are_names_too(self):
        desk = Desk()
        for name in ("doc", "keep", "lay", "lean", "show", "do", "back", "fits", "rows", "same", "part", "none", "ok"):
            self.says(desk, "keep " + name + " has /0", "ok", "rows " + name, "has /0", "same " + name + " " + name, "yes")

    def test_lay(self):
        desk = Desk()
        self.says(desk, "keep a put /0 1", "ok", "keep b put /0 2; has /1", "ok", "lay a b c d", "ok", "rows c", "put /0 1",
                  "rows d", "put /1 2; has /2", "rows a", "put /0 1", "rows b", "put /0 2; has /1")
        self.says(desk, "lay b a c d", "ok", "rows c", "put /0 2; has /2", "rows d", "put /1 1")

    def test_lay_under_the_names_of_the_two(self):
        desk = Desk()
        self.says(desk, "keep a put /0 1", "ok", "keep b take /1", "ok", "lay a b a b", "ok", "rows a", "put /0 1", "rows b",
                  "take /2")
        self.says(desk, "keep a put /0 1", "ok", "keep b take /1", "ok", "lay a b b a", "ok", "rows b", "put /0 1", "rows a",
                  "take /2")
        self.says(desk, "keep a has /", "ok", "lay a a c d", "ok", "rows c", "has /", "rows d", "has /")

    def test_lay_is_refused(self):
        self.lay_refused("take /x", "has /; has /x", Clash, 0, 1)
        self.lay_refused("has /; take /x", "has /; has /y; has /x", Clash, 1, 2)
        # The list of the one is refused ahead of that of the other.
        self.lay_refused("has /; put /20 5", "put /0 5", NoPatch, 1)
        self.lay_refused("put /0 5", "has /; has /; has /20", NoPatch, 2)
        self.lay_refused("has /; has /x/20; put /y/0 1", "put /x/0 5; has /y/20", NoPatch, 1)
        # A clash is told ahead of a list that makes no patch.
        self.lay_refused("put /20 5; take /1", "put /0 5; has /2", Clash, 1, 1)

    def lay_refused(self, one, other, kind, *fields):
        desk = Desk()
        self.says(desk, "keep a " + one, "ok", "keep b " + other, "ok", "keep d has /7", "ok")
        for line in ("lay a b c d", "lay a b d c", "lay a b a b"):
            with self.assertRaises(kind) as caught:
                desk.say(line)
            self.of_its_own(caught.exception, kind)
            self.told(caught.exception.at, fields[0])
            if kind is Clash:
                self.told(caught.exception.other, fields[1])
            self.no_deed(desk, "rows c")
            self.says(desk, "rows d", "has /7", "rows a", one, "rows b", other)

    def test_lean(self):
        desk = Desk()
        self.says(desk, "keep a has /; take /x; lacks /x", "ok", "lean a b", "take /x", "rows b", "take /x",
                  "rows a", "has /; take /x; lacks /x", "lean a a", "take /x", "rows a", "take /x", "lean a b", "take /x")
        self.says(desk, "keep a has /; has /", "ok", "lean a c", "", "rows c", "", "lean c d", "", "rows d", "")
        self.says(desk, "keep a has /0; has /x; has /y", "ok", "same a a", "yes")
        answer = desk.say("lean a e")
        self.says(desk, "rows e", answer, "same a e", "yes")

    def test_keep_is_refused(self):
        for text, at in (("nothing", 0), (" ", 0), (" has /", 0), ("has /; nothing", 1), ("has /; ", 1), ("has /;has /", 0)):
            self.changes_nothing("keep a " + text, NoText, at)
            self.changes_nothing("keep c " + text, NoText, at)
        for text, at in (("put / 5", 0), ("has /; take /", 1), ("has /21", 0), ("; ".join(["has /"] * 41), 40),
                         ("; ".join(["copy / /0"] * 4), 3), ("move /a /a/b", 0), ("has /" + "a/" * 12 + "a", 0)):
            self.changes_nothing("keep a " + text, NoPatch, at)
            self.changes_nothing("keep c " + text, NoPatch, at)
        # A text that writes no rows is refused ahead of rows that make no patch.
        self.changes_nothing("keep a take /; nothing", NoText, 1)

    def test_doc_is_refused(self):
        for text in ("", " ", " 5", "5 ", "01", "'A'", "[1 2", "nothing", "/a", "[" * 101 + "]" * 101, "1" * 61):
            self.changes_nothing("doc " + text, NoText, 0)
        desk = Desk()
        with self.assertRaises(NoText):
            desk.say("doc ")
        self.no_deed(desk, "show")


class Documents(DeskCase):
    def test_do_and_back(self):
        desk = Desk()
        self.says(desk, "doc [1 2]", "ok", "keep a put /0 0", "ok", "keep b take /1; put /1 {x:5}", "ok",
                  "do a", "[0 1 2]", "show", "[0 1 2]", "do b", "[0 {x:5} 2]", "do a", "[0 0 {x:5} 2]",
                  "back", "[0 {x:5} 2]", "show", "[0 {x:5} 2]", "back", "[0 1 2]", "do b", "[0 {x:5} 2]", "back", "[0 1 2]",
                  "back", "[1 2]")
        for line in ("back", "back", "back "):
            self.no_deed(desk, line)
        self.says(desk, "show", "[1 2]")

    def test_a_patch_without_rows_has_a_way_back(self):
        desk = Desk()
        self.says(desk, "doc 5", "ok", "keep a ", "ok", "do a", "5", "do a", "5", "back", "5", "back", "5")
        self.no_deed(desk, "back")

    def test_do_is_refused(self):
        self.says_no_fit("take /0", 0)
        self.says_no_fit("has /; take /x/0; put /w 5; has /w/0", 2)
        self.says_no_fit("take /x/0; take /x/0; take /x/0", 2)

    def says_no_fit(self, text, at):
        desk = self.two()
        self.says(desk, "keep c " + text, "ok", "fits c", f"no {at}")
        before = self.kept(desk)
        for turn in range(2):
            with self.assertRaises(NoFit) as caught:
                desk.say("do c")
            self.of_its_own(caught.exception, NoFit)
            self.told(caught.exception.at, at)
        self.assertEqual(self.kept(desk), before)
        self.says(desk, "back", "{x:[1 2] y:'z'}")
        self.no_deed(desk, "back")

    def test_fits(self):
        desk = self.two()
        self.says(desk, "fits a", "yes", "fits b", "no 0", "show", "{w:[7] x:[1 2] y:'z'}", "keep c ", "ok", "fits c", "yes")
        rows = "; ".join(["has /"] * 39)
        self.says(desk, "keep c " + rows + "; has /0", "ok", "fits c", "no 39", "keep c " + rows + "; has /x/1", "ok", "fits c", "yes")

    def test_no_document_is_kept(self):
        desk = Desk()
        for line in ("show", "do a", "fits a", "back"):
            self.no_deed(desk, line)
        self.says(desk, "keep a has /", "ok")
        for line in ("show", "do a", "fits a", "back"):
            self.no_deed(desk, line)
        self.says(desk, "rows a", "has /", "same a a", "yes", "part a a", "none", "lean a b", "", "doc 0", "ok", "show", "0",
                  "fits a", "yes", "do a", "0")

    def test_wild_patches(self):
        for seed in range(40):
            chance = random.Random(seed)
            doc = chance.choice(nested())
            desk = Desk()
            self.says(desk, "doc " + shown_doc(doc), "ok")
            texts = [shown_doc(doc)]
            for turn in range(4):
                stands = read_doc(texts[-1])
                rows = wild_rows(chance, stands, chance.choice((1, 3)))
                texts.append(shown_doc(outcome(rows, stands)))
                self.says(desk, "keep a " + shown_rows(rows), "ok", "fits a", "yes", "do a", texts[-1])
            for text in reversed(texts[:-1]):
                self.says(desk, "back", text)
            self.no_deed(desk, "back")

    def test_documents_that_grow(self):
        desk = Desk()
        self.says(desk, "doc [1]", "ok", "keep a copy / /0; copy / /0; copy / /0", "ok")
        for turn in range(3):
            desk.say("do a")
        for turn in range(3):
            text = desk.say("back")
        self.assertEqual(text, "[1]")

    def test_documents_that_are_deeper_than_can_be_read(self):
        desk = Desk()
        self.says(desk, "doc [[[[[[[[[[[[]]]]]]]]]]]]", "ok", "keep a copy / /0/0/0/0/0/0/0/0/0/0/0/0", "ok")
        for turn in range(12):
            text = desk.say("do a")
        self.assertGreater(text.count("["), 100)
        with self.assertRaises(NoText):
            read_doc(text)
        for turn in range(12):
            text = desk.say("back")
        self.assertEqual(text, "[[[[[[[[[[[[]]]]]]]]]]]]")


class Patches(DeskCase):
    def test_same(self):
        desk = Desk()
        self.says(desk, "keep a take /x; put /x 5", "ok", "keep b change /x 5", "ok", "keep c change /x 6", "ok", "same a b", "yes",
                  "same b a", "yes", "same a a", "yes", "same a c", "no", "same c b", "no")

    def test_part(self):
        desk = Desk()
        self.says(desk, "keep a take /x; put /x 5", "ok", "keep b change /x 5", "ok", "keep c ask / [1 [2]]; change / 'y'", "ok",
                  "keep d has /0; has /x", "ok", "part a b", "none", "part a a", "none", "part d d", "none",
                  "part c d", "[1 [2]]\n'y'\nnone", "part d c", "[1 [2]]\nnone\n'y'")
        self.says(desk, "keep e ask / [1 [2]]; take /1", "ok", "part c e", "[1 [2]]\n'y'\n[1]", "part e c", "[1 [2]]\n[1]\n'y'")

    def test_wild_patches(self):
        chance = random.Random(14)
        for number in range(150):
            one, other = blind_rows(chance, 2), blind_rows(chance, 2)
            first, second = Patch(one), Patch(other)
            desk = Desk()
            self.says(desk, "keep a " + shown_rows(one), "ok", "keep b " + shown_rows(other), "ok",
                      "same a b", "yes" if same(first, second) else "no", "rows a", shown_rows(one))
            told = parted_by(first, second)
            expected = "none" if told is None else "\n".join("none" if doc is None else shown_doc(doc) for doc in told)
            self.says(desk, "part a b", expected, "lean a c", shown_rows(lean(first).rows()))
            try:
                lists = laid(first, second)
            except Clash as clash:
                with self.assertRaises(Clash) as caught:
                    desk.say("lay a b d e")
                self.assertEqual((caught.exception.at, caught.exception.other), (clash.at, clash.other))
            else:
                self.says(desk, "lay a b d e", "ok", "rows d", shown_rows(lists[0]), "rows e", shown_rows(lists[1]))

    def test_both_ways_round(self):
        desk = Desk()
        self.says(desk, "doc {x:[1 2]}", "ok", "keep a put /x/0 0; put /u 5", "ok", "keep b take /x/1; move /x /v", "ok",
                  "lay a b c d", "ok", "do a", "{u:5 x:[0 1 2]}", "do d", "{u:5 v:[0 1]}", "back", "{u:5 x:[0 1 2]}", "back",
                  "{x:[1 2]}", "do b", "{v:[1]}", "do c", "{u:5 v:[0 1]}")


class NoLines(DeskCase):
    def test_whatever_is_handed_in(self):
        for thing in NOT_TEXTS:
            self.no_deed(Desk(), thing)
            self.no_deed(self.two(), thing)

    def test_what_is_no_line(self):
        for line in NO_LINES:
            with self.subTest(line=line):
                self.no_deed(Desk(), line)
                self.changes_nothing(line, NoDeed)

    def test_a_name_that_is_kept_by_no_patch(self):
        for line in UNKEPT:
            with self.subTest(line=line):
                self.no_deed(Desk(), line)
                self.changes_nothing(line, NoDeed)

    def test_ahead_of_all_else(self):
        desk = self.two()
        # The names are wrong, and so are the texts, the rows and the two patches.
        self.says(desk, "keep c take /x", "ok", "keep e has /x", "ok")
        for line in ("keep A nothing", "keep a", "lay c e d d", "lay c e D f", "lay c e d", "do x", "doc"):
            self.no_deed(desk, line)
        with self.assertRaises(Clash):
            desk.say("lay c e d f")
        fresh = Desk()
        self.says(fresh, "keep a has /0", "ok")
        self.no_deed(fresh, "do a")
        self.no_deed(fresh, "fits a")

    def test_the_words_are_free(self):
        try:
            Desk().say("nothing")
        except NoDeed as refusal:
            self.assertIsInstance(str(refusal), str)


class Newness(DeskCase):
    def test_two_desks_know_nothing_of_each_other(self):
        one, other = Desk(), Desk()
        self.says(one, "doc [1]", "ok", "keep a put /0 5", "ok", "do a", "[5 1]")
        for line in ("show", "rows a", "do a", "back"):
            self.no_deed(other, line)
        self.says(other, "doc [2]", "ok", "keep a take /0", "ok", "do a", "[]")
        self.says(one, "show", "[5 1]", "rows a", "put /0 5", "back", "[1]")
        self.no_deed(one, "back")
        self.says(other, "rows a", "take /0", "back", "[2]")

    def test_told_again_it_is_the_same(self):
        desk = self.two()
        for line in ("show", "rows a", "rows b", "same a b", "part a b", "fits a", "lean b c", "lay a b c d"):
            self.told(desk.say(line), desk.say(line))

    def test_what_is_kept_is_what_the_ways_back_want(self):
        rows = [("take", ("a", 0)), ("change", ("b",), [1]), ("copy", (), ("c",))]
        doc = {"a": [[1], 2], "b": {"x": [3]}}
        desk = Desk()
        self.says(desk, "doc " + shown_doc(doc), "ok", "keep a " + shown_rows(rows), "ok")
        behind = Patch(rows).applied(doc)
        self.says(desk, "do a", shown_doc(behind), "back", shown_doc(back_of(Patch(rows), doc).applied(behind)))
        self.assertEqual(read_rows(desk.say("rows a")), rows)


if __name__ == "__main__":
    unittest.main()
