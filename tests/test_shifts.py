"""What a row touches, and where parts stand behind it: [8.1], [8.2]."""

import itertools
import random
import unittest

from cases import Case
from patchbough.shifts import after, bars, comes_to, gone_by, moved_by, needs, reads
from reckoned import at, blind_row, fits, put, rows_about, take, WORDS
from samples import is_new_through_and_through, nested, routes, twin

# A row, and what gone_by, moved_by, reads, comes_to, needs and bars tell of it.
TOLD = (
    (("put", ("a", 2), [5]), None, None, None, (("a",), 2), [("a",)], None),
    (("put", ("a", "b"), [5]), None, None, None, (("a",), "b"), [("a",)], (("a",), "b")),
    (("put", ("a",), 5), None, None, None, ((), "a"), [()], ((), "a")),
    (("put", (0,), 5), None, None, None, ((), 0), [()], None),
    (("take", ("a", 2)), ("a", 2), None, None, None, [("a", 2)], None),
    (("take", ("a",)), ("a",), None, None, None, [("a",)], None),
    (("change", ("a", 2), 5), ("a", 2), None, None, None, [("a", 2)], None),
    (("change", (), 5), (), None, None, None, [()], None),
    (("move", ("a", 2), ("b", "c")), None, ("a", 2), None, (("b",), "c"), [("a", 2), ("b",)], (("b",), "c")),
    (("move", ("a",), ("b", 1)), None, ("a",), None, (("b",), 1), [("a",), ("b",)], None),
    (("move", ("a",), ("a",)), None, ("a",), None, ((), "a"), [("a",), ()], ((), "a")),
    (("copy", ("a", 2), ("b", "c")), None, None, ("a", 2), (("b",), "c"), [("a", 2), ("b",)], (("b",), "c")),
    (("copy", (), (0, 3)), None, None, (), ((0,), 3), [(), (0,)], None),
    (("ask", ("a", 2), 5), None, None, ("a", 2), None, [("a", 2)], None),
    (("ask", (), 5), None, None, (), None, [()], None),
    (("has", ("a", 2)), None, None, None, None, [("a", 2)], None),
    (("has", ()), None, None, None, None, [()], None),
    (("lacks", ("a", "b")), None, None, None, None, [("a",)], (("a",), "b")),
    (("lacks", ("a",)), None, None, None, None, [()], ((), "a")),
    (("is", ("a", 2), "row"), None, None, None, None, [("a", 2)], None),
    (("is", (), "table"), None, None, None, None, [()], None),
)

# A move's path and to, and where its part comes, counted ahead of its taking.
MOVES = (
    ((0,), (2,), ((), 3)),
    ((0,), (0, 1), ((1,), 1)),
    ((0,), (0,), ((), 0)),
    ((0,), (1,), ((), 2)),
    ((2,), (0,), ((), 0)),
    ((2,), (1,), ((), 1)),
    ((2,), (2,), ((), 2)),
    ((2,), (3,), ((), 4)),
    ((2,), (1, 5), ((1,), 5)),
    ((2,), (2, 5), ((3,), 5)),
    ((2,), (3, 5), ((4,), 5)),
    ((0,), (0, "a"), ((1,), "a")),
    ((0,), (0, 0, 0), ((1, 0), 0)),
    (("a", 1), ("a", 1), (("a",), 1)),
    (("a", 1), ("a", 2), (("a",), 3)),
    (("a", 1), ("a", 1, "b"), (("a", 2), "b")),
    (("a", 1), ("a", 0, "b"), (("a", 0), "b")),
    (("a", 1), ("b", 2), (("b",), 2)),
    (("a", 1), ("a",), ((), "a")),
    (("a", 1, 0), ("a", 1), (("a",), 1)),
    (("a", 1, 0), ("a", 2), (("a",), 2)),
    (("a", 1, 0), ("a", 1, 3), (("a", 1), 4)),
    ((1, "a"), (1, "b"), ((1,), "b")),
    ((1, "a"), (2, "b"), ((2,), "b")),
    ((1, "a"), (3,), ((), 3)),
    (("a", 1), ("a", "b"), (("a",), "b")),
    (("a", 1), ("a", "b", 2), (("a", "b"), 2)),
    ((20,), (20, 20), ((21,), 20)),
    ((19,), (20,), ((), 21)),
)


def marked(doc):
    """The document with a leaf of its own wherever it has one."""
    count = itertools.count(1000)

    def mark(part):
        if isinstance(part, list):
            return [mark(cell) for cell in part]
        if isinstance(part, dict):
            return {name: mark(part[name]) for name in part}
        return next(count)
    return mark(doc)


def keys(doc):
    """For each path a key of the part there, which it keeps wherever it stands."""
    return {path: id(part) if isinstance(part, (list, dict)) else part for path, part in routes(doc)}


def behind(doc, row):
    """The document itself changed as the row tells; what comes into it has other keys than what stands there."""
    word, path = row[0], row[1]
    if word == "put":
        put(doc, path, "new")
    elif word == "take":
        take(doc, path)
    elif word == "change":
        if path == ():
            return "new"
        at(doc, path[:-1])[path[-1]] = "new"
    elif word == "move":
        put(doc, row[2], take(doc, path))
    elif word == "copy":
        put(doc, row[2], "new")
    return doc


class Touched(Case):
    def test_each_word(self):
        self.assertEqual({told[0][0] for told in TOLD}, set(WORDS))
        for row, gone, moved, read, comes, need, barred in TOLD:
            with self.subTest(row=row):
                self.told(gone_by(row), gone)
                self.told(moved_by(row), moved)
                self.told(reads(row), read)
                self.told(comes_to(row), comes)
                self.told(needs(row), need)
                self.told(bars(row), barred)

    def test_a_move_is_counted_ahead_of_its_taking(self):
        for path, to, comes in MOVES:
            with self.subTest(path=path, to=to):
                row = ("move", path, to)
                self.told(comes_to(row), comes)
                self.told(needs(row), [path, comes[0]])
                self.told(bars(row), comes if isinstance(comes[1], str) else None)
                self.told(moved_by(row), path)

    def test_other_rows_are_counted_as_they_stand(self):
        for path, to, comes in MOVES:
            self.told(comes_to(("copy", path, to)), (to[:-1], to[-1]))
            self.told(needs(("copy", path, to)), [path, to[:-1]])
            self.told(comes_to(("put", to, 5)), (to[:-1], to[-1]))

    def test_the_part_comes_between_those_that_stood_there(self):
        seen = 0
        for doc in nested() + [[[1, 2], 3, [4, [5, 6], 7]]]:
            for row in rows_about(doc, 8):
                if row[0] not in ("put", "copy", "move") or not fits(row, doc):
                    continue
                holder, step = comes_to(row)
                ahead = marked(doc)
                before = keys(ahead)
                there = keys(behind(ahead, row))
                to = row[1] if row[0] == "put" else row[2]
                self.assertIn(holder, before)
                self.assertEqual(there[to[:-1]], before[holder])
                if isinstance(step, int):
                    cells = [before[holder + (place,)] for place in range(len(at(doc, holder)))]
                    first = [key for key in cells[:step] if key != there[to]]
                    last = [key for key in cells[step:] if key != there[to]]
                    row_now = [there[path] for path in sorted(path for path in there if path[:-1] == to[:-1] and path)]
                    self.assertEqual(row_now, first + [there[to]] + last, (doc, row))
                    seen += 1
                else:
                    self.assertEqual(step, to[-1])
        self.assertGreater(seen, 200)


class After(Case):
    def test_what_went(self):
        for row in (("take", ("a", 1)), ("change", ("a", 1), 5)):
            for path in (("a", 1), ("a", 1, 0), ("a", 1, "b", 2)):
                self.assertIs(after(path, row), None)
            for path in ((), ("a",), ("a", 0), ("b",), ("b", 1), ("aa", 1)):
                self.told(after(path, row), path)
        self.told(after(("a", 2), ("take", ("a", 1))), ("a", 1))
        self.told(after(("a", 2), ("change", ("a", 1), 5)), ("a", 2))
        for path in ((), ("a",), (0, 1)):
            self.assertIs(after(path, ("change", (), 5)), None)

    def test_what_was_moved(self):
        row = ("move", ("a", 1), ("b", "c"))
        for path, there in ((("a", 1), ("b", "c")), (("a", 1, 0, "d"), ("b", "c", 0, "d")), (("a",), ("a",)),
                            (("a", 0, 5), ("a", 0, 5)), (("a", 2), ("a", 1)), (("a", 3, "d"), ("a", 2, "d")),
                            (("b",), ("b",)), (("b", "d", 7), ("b", "d", 7)), ((), ())):
            self.told(after(path, row), there)

    def test_cells_behind_a_cell(self):
        for row, there in ((("take", (1,)), [(0,), None, (1,), (2,), (3,)]),
                           (("put", (1,), 5), [(0,), (2,), (3,), (4,), (5,)]),
                           (("copy", (3,), (1,)), [(0,), (2,), (3,), (4,), (5,)]),
                           (("copy", (), (5,)), [(0,), (1,), (2,), (3,), (4,)]),
                           (("put", (0,), 5), [(1,), (2,), (3,), (4,), (5,)]),
                           (("move", (1,), ("x",)), [(0,), ("x",), (1,), (2,), (3,)]),
                           (("move", (1,), (3,)), [(0,), (3,), (1,), (2,), (4,)]),
                           (("move", (3,), (1,)), [(0,), (2,), (3,), (1,), (4,)]),
                           (("move", (2,), (2,)), [(0,), (1,), (2,), (3,), (4,)]),
                           (("move", (0,), (4,)), [(4,), (0,), (1,), (2,), (3,)]),
                           (("move", (4,), (0,)), [(1,), (2,), (3,), (4,), (0,)]),
                           (("move", (0,), (0, 1)), [(0, 1), (0,), (1,), (2,), (3,)]),
                           (("move", (2,), (0, 1)), [(0,), (1,), (0, 1), (2,), (3,)])):
            with self.subTest(row=row):
                for place in range(5):
                    got = after((place,), row)
                    if there[place] is None:
                        self.assertIs(got, None)
                    else:
                        self.told(got, there[place])
                        if (place,) != row[1] or row[0] != "move":
                            self.told(after((place, "b", 7), row), there[place] + ("b", 7))

    def test_both_in_one_path(self):
        # A cell is gone from the outer row, and one comes to the inner one.
        self.told(after((1, 1), ("move", (0,), (0, 1))), (0, 2))
        self.told(after((1, 0), ("move", (0,), (0, 1))), (0, 0))
        self.told(after((2, 3), ("move", (2, 0), (1,))), (3, 2))
        self.told(after((2, 3), ("move", (2, 4), (2,))), (3, 3))
        self.told(after((0, 3), ("move", (2, 0), (1,))), (0, 3))

    def test_rows_that_only_ask_move_nothing(self):
        for row in (("ask", ("a", 1), 5), ("has", ("a", 1)), ("lacks", ("a", "b")), ("is", ("a", 1), "row")):
            for path in ((), ("a",), ("a", 0), ("a", 1), ("a", 2, "c")):
                self.told(after(path, row), path)

    def test_each_part_about_each_row(self):
        seen = 0
        for doc in nested() + [[[1, 2], 3, [4, [5, 6], 7]], {"a": [1, [2, 3], 4], "b": [5, 6]}]:
            for row in rows_about(doc, 8):
                if not fits(row, doc):
                    continue
                ahead = marked(doc)
                before = keys(ahead)
                there = {key: path for path, key in keys(behind(ahead, row)).items()}
                for path, key in before.items():
                    self.told(after(path, row), there.get(key))
                    seen += 1
        self.assertGreater(seen, 5000)


class Newness(Case):
    def test_what_is_told_is_new(self):
        chance = random.Random(4)
        for row in [told[0] for told in TOLD] + [blind_row(chance, WORDS) for number in range(100)]:
            for function in (gone_by, moved_by, reads, comes_to, needs, bars):
                is_new_through_and_through(self, function, [row])
            for path in ((), ("a",), ("a", 2, "b"), (0, 1), (1, 0)):
                before = twin(row)
                told = after(path, row)
                self.told(row, before)
                self.told(after(path, row), told)

    def test_needs_are_the_askers_own(self):
        row = ("copy", ("a",), ("b", 0))
        told = needs(row)
        told.clear()
        self.told(needs(row), [("a",), ("b",)])


if __name__ == "__main__":
    unittest.main()
