"""Settled makes: [5.4], [5.5], [5.6]."""

import itertools
import random
import unittest

from askings import is_good, lets, near_docs, plain_doc, some_asks, told_paths, wild_asks
from cases import Case
from makings import do_same, is_settled, is_some_from, make, nodes, tell_apart, told_out, wild_makes
from patchbough.asks import both_of, good_form
from patchbough.makes import good_makes, made
from patchbough.settling import narrowed, settled
from samples import alike, is_new_through_and_through, twin

ANY = ("any",)
OPEN = ("row", [ANY, ("just", 5)], True)
CLOSED = ("row", [ANY, ("just", 5)], False)


def pairs(count, seed):
    """Asks in good form and makes over them."""
    chance = random.Random(seed)
    told = []
    for number in range(count):
        asks = good_form(chance.choice(some_asks()) if number % 4 == 0 else wild_asks(chance, 4))
        told.append((wild_makes(chance, asks, chance.choice((1, 2, 3, 4))), asks))
    return told


class Settling(Case):
    def settles(self, makes, asks, expected):
        self.told(good_makes(makes, asks), True)
        self.told(settled(makes, asks), expected)
        self.told(settled(expected, asks), expected)
        # And so it does within others.
        self.told(settled(("row", [("just", 1), makes, ("from", ())], None), asks),
                  settled(("row", [("just", 1), expected, ("from", ())], None), asks))

    def test_the_examples(self):
        self.settles(("row", [("from", (0,)), ("from", (1,))], ()), OPEN, ("from", ()))
        self.settles(("row", [("from", (0,)), ("from", (1,))], None), OPEN, ("row", [("from", (0,)), ("just", 5)], None))
        self.settles(("row", [("from", (0,))], ()), OPEN, ("row", [("from", (0,))], ()))

    def test_just_and_from(self):
        for doc in (5, "x", [], {}, [5, {"a": []}]):
            self.settles(("just", doc), ANY, ("just", doc))
            self.settles(("from", ()), ("just", doc), ("just", doc))
            self.settles(("from", ("a",)), ("table", {"a": ("just", doc), "b": ANY}, [], True), ("just", doc))
        for asks in (ANY, OPEN, CLOSED, ("row", [], True), ("table", {}, ["a"], True), ("table", {"a": ANY}, [], False)):
            self.settles(("from", ()), asks, ("from", ()))
        self.settles(("from", (1,)), OPEN, ("just", 5))
        self.settles(("from", (0,)), OPEN, ("from", (0,)))
        self.settles(("from", (1, "a", 0)), ("row", [ANY, ("just", {"a": [7]})], False), ("just", 7))

    def test_justs_alone_and_none(self):
        for makes, told in ((("row", [], None), []), (("table", {}, None), {}), (("row", [("just", 1)], None), [1]),
                            (("row", [("just", 1), ("row", [], None)], None), [1, []]),
                            (("table", {"a": ("just", []), "b": ("table", {}, None)}, None), {"a": [], "b": {}}),
                            (("row", [("from", (1,)), ("table", {"a": ("from", (1,))}, None)], None), [5, {"a": 5}])):
            self.settles(makes, OPEN, ("just", told))

    def test_justs_alone_with_a_tail_or_rest(self):
        self.settles(("row", [], ()), OPEN, ("row", [], ()))
        self.settles(("row", [("just", 1)], ()), OPEN, ("row", [("just", 1)], ()))
        self.settles(("row", [("just", 1)], ()), ("row", [("just", 1), ANY], True), ("row", [("just", 1)], ()))
        self.settles(("table", {}, ()), ("table", {"a": ("just", 1)}, ["b"], True), ("table", {}, ()))
        self.settles(("table", {"b": ("just", 1)}, ()), ("table", {}, ["b"], True), ("table", {"b": ("just", 1)}, ()))

    def test_a_whole_row(self):
        whole = [("from", (0,)), ("just", 5)]
        self.settles(("row", whole, ()), OPEN, ("from", ()))
        self.settles(("row", whole, None), CLOSED, ("from", ()))
        self.settles(("row", whole, None), OPEN, ("row", whole, None))
        self.settles(("row", [], ()), ("row", [], True), ("from", ()))
        self.settles(("row", [("just", 1)], ()), ("row", [("just", 1)], True), ("from", ()))
        self.settles(("row", whole[1:], ()), OPEN, ("row", whole[1:], ()))
        self.settles(("row", whole[1:], None), CLOSED, ("just", [5]))
        for cells in (whole + [("just", 6)], whole[:1], whole[::-1], [("just", 5), ("from", (0,))],
                      [("from", (0,)), ("from", (0,))], [("from", (0,)), ("just", 6)], whole + whole, [("from", ()), whole[1]]):
            self.settles(("row", cells, None), CLOSED, ("row", cells, None))
            self.settles(("row", cells, ()), OPEN, ("row", cells, ()))

    def test_a_whole_table(self):
        asks = ("table", {"a": ANY, "b": ("just", 5)}, ["c"], True)
        closed = ("table", {"a": ANY, "b": ("just", 5)}, [], False)
        whole = {"a": ("from", ("a",)), "b": ("just", 5)}
        self.settles(("table", whole, ()), asks, ("from", ()))
        self.settles(("table", {"b": ("from", ("b",)), "a": ("from", ("a",))}, ()), asks, ("from", ()))
        self.settles(("table", whole, None), closed, ("from", ()))
        self.settles(("table", whole, None), asks, ("table", whole, None))
        self.settles(("table", {}, ()), ("table", {}, [], True), ("from", ()))
        self.settles(("table", {}, ()), ("table", {}, ["a", "b"], True), ("from", ()))
        for names in ({"a": ("from", ("a",))}, {"b": ("just", 5)}, {}, {"a": ("just", 5), "b": ("from", ("a",))},
                      {"a": ("from", ("a",)), "b": ("just", 6)}, {"a": ("from", ("a",)), "b": ("just", 5), "c": ("just", 1)},
                      {"a": ("from", ()), "b": ("just", 5)}):
            self.settles(("table", names, ()), asks, ("table", names, ()))
        for names in ({"a": ("from", ("a",))}, {"a": ("from", ("a",)), "b": ("just", 5), "c": ("just", 1)},
                      {"b": ("from", ("a",)), "a": ("just", 5)}, {"a": ("from", ("a",)), "c": ("just", 5)}):
            self.settles(("table", names, None), closed, ("table", names, None))

    def test_a_whole_within_others(self):
        inner = ("row", [ANY, ("just", 5)], True)
        asks = ("table", {"a": ("row", [inner, ("table", {"x": ANY}, ["y"], True)], False), "b": ANY}, [], True)
        row = ("row", [("from", ("a", 0, 0)), ("from", ("a", 0, 1))], ("a", 0))
        table = ("table", {"x": ("from", ("a", 1, "x"))}, ("a", 1))
        self.settles(row, asks, ("from", ("a", 0)))
        self.settles(table, asks, ("from", ("a", 1)))
        self.settles(("row", [row, table], None), asks, ("from", ("a",)))
        self.settles(("table", {"a": ("row", [row, table], None), "b": ("from", ("b",))}, ()), asks, ("from", ()))
        self.settles(("row", [table, row], None), asks, ("row", [("from", ("a", 1)), ("from", ("a", 0))], None))
        self.settles(("row", [("just", 1), ("row", [row, table], None)], ("a", 0)), asks,
                     ("row", [("just", 1), ("from", ("a",))], ("a", 0)))
        self.settles(("table", {"b": ("row", [row, table], None)}, ()), asks, ("table", {"b": ("from", ("a",))}, ()))
        self.settles(("table", {"a": row, "b": ("from", ("b",))}, ()), asks,
                     ("table", {"a": ("from", ("a", 0)), "b": ("from", ("b",))}, ()))

    def test_a_just_first_and_the_path_from_a_later_cell(self):
        asks = ("row", [("just", 1), ("just", [2]), ANY, ("row", [ANY, ("just", 3)], False)], False)
        cells = [("just", 1), ("row", [("just", 2)], None), ("from", (2,)), ("row", [("from", (3, 0)), ("just", 3)], None)]
        self.settles(("row", cells, None), asks, ("from", ()))
        self.settles(("row", cells[:3], None), asks, ("row", [("just", 1), ("just", [2]), ("from", (2,))], None))
        self.settles(("row", [("just", 1), ("just", [2]), ("from", (2,)), ("from", (2,))], None), asks,
                     ("row", [("just", 1), ("just", [2]), ("from", (2,)), ("from", (2,))], None))

    def test_another_part_at_the_same_step(self):
        asks = ("row", [("row", [ANY, ANY], False), ("row", [ANY, ANY], False)], False)
        one, other = ("row", [("from", (0, 0)), ("from", (1, 1))], None), ("row", [("from", (1, 0)), ("from", (1, 1))], None)
        self.settles(one, asks, one)
        self.settles(other, asks, ("from", (1,)))
        self.settles(("row", [other, other], None), asks, ("row", [("from", (1,)), ("from", (1,))], None))
        table = ("table", {"a": ("table", {"a": ANY}, [], False), "b": ANY}, [], False)
        self.settles(("table", {"a": ("from", ("a", "a"))}, None), table, ("from", ("a",)))
        self.settles(("table", {"a": ("from", ("b",))}, None), table, ("table", {"a": ("from", ("b",))}, None))
        self.settles(("row", [("from", ())], None), table, ("row", [("from", ())], None))

    def test_wild_makes_make_the_same_settled(self):
        for makes, asks in pairs(500, 1):
            told = settled(makes, asks)
            self.told(good_makes(told, asks), True)
            self.assertTrue(is_settled(told, asks))
            self.assertTrue(do_same(makes, told, asks))
            self.told(settled(told, asks), told)
            for doc in near_docs(asks)[:2]:
                self.told(made(told, asks, doc), make(makes, asks, doc))

    def test_no_settled_row_or_table_is_a_from(self):
        for makes, asks in pairs(150, 2):
            for node in nodes(settled(makes, asks)):
                if node[0] in ("row", "table"):
                    self.assertFalse(is_some_from(node, asks))

    def test_what_is_told_out_settles_to_the_same(self):
        chance = random.Random(7)
        for makes, asks in pairs(400, 3):
            expected = settled(makes, asks)
            for often in (0.5, 1.0):
                other = told_out(chance, makes, asks, often)
                self.told(settled(other, asks), expected)
                self.told(settled(told_out(chance, expected, asks, often), asks), expected)
            for path, told in told_paths(asks):
                out = told_out(chance, ("from", path), asks, 1.0)
                self.told(settled(out, asks), settled(("from", path), asks))

    def test_equal_just_where_they_make_the_same(self):
        chance = random.Random(11)
        equals = 0
        for number in range(40):
            asks = good_form(wild_asks(chance, 3))
            seen = [wild_makes(chance, asks, chance.choice((1, 2, 2, 3))) for turn in range(14)]
            docs = tell_apart(asks)
            made_of = [[make(makes, asks, doc) for doc in docs] for makes in seen]
            told = [settled(makes, asks) for makes in seen]
            for one, other in itertools.combinations(range(len(seen)), 2):
                self.told(told[one] == told[other], alike(made_of[one], made_of[other]))
                equals += told[one] == told[other]
        self.assertGreater(equals, 100)

    def test_deep_and_great(self):
        chance = random.Random(13)
        for more in (True, False):
            asks = ANY
            for level in range(19):
                asks = ("row", [asks, ("just", level)], more) if level % 2 else ("table", {"a": asks, "b": ANY}, [], more)
            out = told_out(chance, ("from", ()), asks, 1.0)
            self.told(settled(out, asks), ("from", ()))
            self.told(settled(("row", [out], None), asks), ("row", [("from", ())], None))
        wide = ("row", [("table", {"a": ANY, "b": ("just", number)}, ["c"], True) for number in range(333)], False)
        self.told(settled(told_out(chance, ("from", ()), wide, 1.0), wide), ("from", ()))

    def test_very_deep(self):
        asks, makes, path = ANY, ("from", (0,) * 300), (0,) * 300
        for level in range(300):
            asks = ("row", [asks], level % 2 == 0)
        for level in range(300):
            path = path[1:]
            makes = ("row", [makes], path if level % 2 == 0 else None)
        self.told(settled(makes, asks), ("from", ()))


class Narrowing(Case):
    def narrows(self, makes, asks, narrower, expected):
        self.told(narrowed(makes, asks, narrower), expected)
        self.told(good_makes(expected, narrower), True)
        for doc in tell_apart(narrower):
            self.told(made(expected, narrower, doc), make(makes, asks, doc))

    def test_a_tail_that_tells_more_cells(self):
        makes = ("row", [("just", 1)], ())
        for narrower, told in ((("row", [ANY, ("just", 5)], True), ("row", [("just", 1)], ())),
                               (("row", [ANY, ("just", 5), ANY], True), ("row", [("just", 1), ("from", (2,))], ())),
                               (("row", [("just", 2), ("just", 5), ("just", 6), ANY], True),
                                ("row", [("just", 1), ("just", 6), ("from", (3,))], ())),
                               (("row", [ANY, ("just", 5), ("just", 6)], False), ("just", [1, 6])),
                               (("row", [ANY, ("just", 5), ANY, ANY], False),
                                ("row", [("just", 1), ("from", (2,)), ("from", (3,))], None)),
                               (CLOSED, ("just", [1])), (("just", [7, 5]), ("just", [1])),
                               (("just", [7, 5, 8, [9]]), ("just", [1, 8, [9]]))):
            self.narrows(makes, OPEN, narrower, told)

    def test_a_rest_that_tells_more_names(self):
        asks = ("table", {"a": ANY}, ["b"], True)
        makes = ("table", {"b": ("from", ("a",))}, ())
        whole = {"b": ("from", ("a",))}
        for narrower, told in ((asks, makes), (("table", {"a": ANY}, ["b", "c"], True), ("table", whole, ())),
                               (("table", {"a": ANY, "c": ANY}, ["b"], True),
                                ("table", dict(whole, c=("from", ("c",))), ())),
                               (("table", {"a": ("just", 5), "c": ("just", 6)}, ["b", "d"], True),
                                ("table", {"b": ("just", 5), "c": ("just", 6)}, ())),
                               (("table", {"a": ANY, "c": ("just", 6)}, [], False),
                                ("table", dict(whole, c=("just", 6)), None)),
                               (("table", {"a": ANY}, [], False), ("table", whole, None)),
                               (("just", {"a": 7}), ("just", {"b": 7})),
                               (("just", {"a": 7, "c": [8]}), ("just", {"b": 7, "c": [8]}))):
            self.narrows(makes, asks, narrower, told)

    def test_what_is_a_from_only_over_the_narrower(self):
        asks = ("row", [ANY], True)
        self.narrows(("row", [("just", 5)], ()), asks, ("row", [("just", 5)], True), ("from", ()))
        self.narrows(("row", [("just", 5)], ()), asks, ("row", [("just", 5), ANY], False), ("from", ()))
        self.narrows(("row", [("from", (0,))], None), asks, ("row", [ANY], False), ("from", ()))
        self.narrows(("table", {}, ()), ("table", {}, ["a"], True), ("table", {"b": ANY}, ["a"], False), ("from", ()))
        self.narrows(("from", ()), ANY, ("just", [5]), ("just", [5]))
        self.narrows(("from", ()), ANY, OPEN, ("from", ()))
        self.narrows(("from", (0,)), asks, ("row", [("row", [ANY], False)], True), ("from", (0,)))

    def test_tails_within_others(self):
        asks = ("table", {"a": ("row", [], True), "b": ("table", {}, [], True)}, [], True)
        narrower = ("table", {"a": ("row", [ANY, ("just", 5)], False), "b": ("table", {"x": ANY}, ["y"], True),
                              "c": ANY}, ["d"], True)
        makes = ("row", [("row", [("just", 1)], ("a",)), ("table", {}, ("b",)), ("table", {"a": ("just", 2)}, ())], ("a",))
        self.narrows(makes, asks, narrower, (
            "row", [("row", [("just", 1), ("from", ("a", 0)), ("just", 5)], None), ("from", ("b",)),
                    ("table", {"a": ("just", 2), "c": ("from", ("c",))}, ()), ("from", ("a", 0)), ("just", 5)], None))

    def test_over_the_same_asks_it_is_settled(self):
        for makes, asks in pairs(200, 21):
            self.told(narrowed(makes, asks, asks), settled(makes, asks))

    def test_wild(self):
        chance = random.Random(23)
        narrower_ones = 0
        for makes, asks in pairs(500, 22):
            for turn in range(4):
                narrower = both_of(asks, wild_asks(chance, 4))
                if turn == 0:
                    narrower = self.closer(chance, asks)
                if narrower is None:
                    continue
                self.assertTrue(is_good(narrower))
                narrower_ones += narrower != asks
                told = narrowed(makes, asks, narrower)
                self.told(good_makes(told, narrower), True)
                self.told(settled(told, narrower), told)
                for doc in tell_apart(narrower):
                    self.assertTrue(lets(asks, doc))
                    self.told(made(told, narrower, doc), make(makes, asks, doc))
                self.told(narrowed(settled(makes, asks), asks, narrower), told)
                narrowest = ("just", plain_doc(narrower, itertools.count(3000), 1))
                self.told(narrowed(told, narrower, narrowest), narrowed(makes, asks, narrowest))
        self.assertGreater(narrower_ones, 500)

    def closer(self, chance, asks):
        """Narrower asks: some anys told as something else, some open rows and tables longer or no longer open."""
        def close(node):
            word = node[0]
            if word == "any":
                return chance.choice((ANY, ("just", 5), ("row", [ANY], True), ("table", {"a": ANY}, ["b"], True)))
            if word == "just":
                return node
            if word == "row":
                more = [ANY, ("just", 6)][:chance.choice((0, 1, 2))] if node[2] else []
                return ("row", [close(inner) for inner in node[1]] + more, node[2] and chance.random() < 0.5)
            names = {name: close(inner) for name, inner in node[1].items()}
            if node[3] and chance.random() < 0.7:
                names.update({name: ANY for name in ("b", "e") if name not in names and name not in node[2]})
            return ("table", names, node[2], node[3] and chance.random() < 0.5)
        return good_form(close(asks))


class Newness(Case):
    def test_what_is_told_is_new(self):
        shared = [[5], {"a": [5]}]
        asks = ("row", [ANY, ("just", shared), ("just", shared)], True)
        cells = [("just", shared), ("from", (1,)), ("from", (0,))]
        own = ("row", [("row", cells, ()), ("row", cells, None), ("table", {"a": ("just", shared)}, None)], ())
        chance = random.Random(31)
        for makes, over in [(own, asks)] + pairs(30, 32):
            is_new_through_and_through(self, settled, [makes, over])
            for narrower in (over, both_of(over, wild_asks(chance, 3)), ("just", tell_apart(over)[-1])):
                if narrower is not None:
                    is_new_through_and_through(self, narrowed, [makes, over, narrower])

    def test_told_again_it_is_the_same(self):
        for makes, asks in pairs(50, 33):
            self.told(settled(makes, asks), settled(twin(makes), twin(asks)))


class States(unittest.TestCase):
    def test_it_is_there(self):
        import patchbough.states
        self.assertTrue(patchbough.states.__doc__)


if __name__ == "__main__":
    unittest.main()
