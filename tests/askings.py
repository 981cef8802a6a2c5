"""Asks and makes for the tests, and what they let in and make, reckoned by hand.

Nothing here calls the program: what it tells is held against what is reckoned here.
"""

import itertools

from samples import alike, routes, twin

NAMES = ("a", "b", "c")
LEAVES = (5, "x")
JUSTS = (5, 6, "x", [], {}, [5], {"a": 5}, [[], 6], {"b": [5], "c": {}})


def small_docs():
    """All documents of at most three parts over three leaves and two names, and some of four."""
    by_size = {1: [5, 6, "x", [], {}]}
    for size in (2, 3, 4):
        by_size[size] = []
        for inner in by_size[size - 1]:
            by_size[size].extend([[inner], {"a": inner}, {"b": inner}])
        for left in range(1, size - 1):
            # Of the great ones only those around 5 and [], or there were too many to try.
            firsts = by_size[left] if size < 4 else [doc for doc in by_size[left] if doc in (5, [], [5], {"a": 5})]
            for one, other in itertools.product(firsts, by_size[size - 1 - left]):
                by_size[size].extend([[one, other], {"a": one, "b": other}])
    by_size[4].extend([[5, 6, "x"], [5, 5, 5], {"a": 5, "b": 6, "c": 5}, {"a": 5, "b": 5, "d": []}])
    return [twin(doc) for size in sorted(by_size) for doc in by_size[size]]


def lets(asks, doc):
    """Whether the asks let the document in, told as [4.1] tells it."""
    word = asks[0]
    if word == "any":
        return True
    if word == "just":
        return alike(asks[1], doc)
    if word == "row":
        if type(doc) is not list or len(doc) < len(asks[1]) or (len(doc) > len(asks[1]) and not asks[2]):
            return False
        return all(lets(inner, cell) for inner, cell in zip(asks[1], doc))
    if type(doc) is not dict or not set(asks[1]) <= set(doc) or set(asks[2]) & set(doc):
        return False
    if not asks[3] and set(doc) - set(asks[1]):
        return False
    return all(lets(asks[1][name], doc[name]) for name in asks[1])


def is_good(asks):
    """Whether asks are in good form, told as [4.2] tells it."""
    word = asks[0]
    if word in ("any", "just"):
        return True
    inner = asks[1] if word == "row" else list(asks[1].values())
    if not all(is_good(other) for other in inner):
        return False
    if asks[-1] is True:
        return True
    return any(other[0] != "just" for other in inner) and (word == "row" or asks[2] == [])


def wild_asks(chance, depth):
    """Asks of all four kinds, nested in one another at most so deep, in good form or not."""
    word = chance.choice(("any", "just") if depth <= 1 else ("any", "just", "row", "row", "table", "table"))
    if word == "any":
        return ("any",)
    if word == "just":
        return ("just", twin(chance.choice(JUSTS)))
    more = chance.random() < 0.5
    if word == "row":
        return ("row", [wild_asks(chance, depth - 1) for number in range(chance.choice((0, 1, 1, 2, 3)))], more)
    names = chance.sample(NAMES, chance.choice((0, 1, 1, 2)))
    lacking = [name for name in NAMES + ("d",) if name not in names and chance.random() < 0.3]
    return ("table", {name: wild_asks(chance, depth - 1) for name in names}, lacking, more)


def some_asks():
    """Asks of all four kinds, nested in one another, that are told out here."""
    any_row, any_table = ("row", [], True), ("table", {}, [], True)
    return [twin(asks) for asks in (
        ("any",), ("just", 5), ("just", "x"), ("just", []), ("just", {}), ("just", [5]), ("just", {"a": 5}),
        ("row", [], False), any_row, ("row", [("any",)], False), ("row", [("any",)], True), ("row", [("just", 5)], False),
        ("row", [("just", 5)], True), ("row", [("any",), ("just", 5)], True), ("row", [("just", 5), ("any",)], False),
        ("table", {}, [], False), any_table, ("table", {}, ["a"], False), ("table", {}, ["a"], True),
        ("table", {}, ["a", "b"], True), ("table", {"a": ("any",)}, [], False), ("table", {"a": ("any",)}, [], True),
        ("table", {"a": ("any",)}, ["b"], False), ("table", {"a": ("any",)}, ["b"], True),
        ("table", {"a": ("just", 5)}, [], False), ("table", {"a": ("just", 5)}, ["b"], False),
        ("table", {"a": ("just", 5)}, [], True), ("table", {"a": ("just", 5), "b": ("any",)}, ["c"], False),
        ("row", [any_row, any_table], True), ("row", [any_row, ("row", [], False)], False),
        ("table", {"a": any_row, "b": any_table}, [], True), ("row", [("table", {"a": ("just", [])}, [], False)], False),
        ("table", {"a": ("row", [("just", 5)], False), "b": ("just", {"a": 5})}, ["c"], False),
        ("row", [("row", [("row", [("any",)], False)], False)], True),
        ("table", {"a": ("table", {"a": ("any",)}, ["b"], True)}, ["b"], True),
    )]


def told_paths(asks):
    """Each path at which asks tell something, with the asks told there, those of a just's parts among them."""
    if asks[0] == "just":
        return [(path, ("just", part)) for path, part in routes(asks[1])]
    found = [((), asks)]
    if asks[0] in ("row", "table"):
        inner = enumerate(asks[1]) if asks[0] == "row" else asks[1].items()
        for step, other in inner:
            found.extend(((step,) + path, told) for path, told in told_paths(other))
    return found


def plain_doc(asks, leaves, more=0):
    """A document that the asks let in, with so many more cells or names at each open row or table.

    For each any, and for what there is more, it has the next of these leaves.
    """
    word = asks[0]
    if word == "any":
        return next(leaves)
    if word == "just":
        return twin(asks[1])
    if word == "row":
        told = [plain_doc(inner, leaves, more) for inner in asks[1]]
        return told + [next(leaves) for number in range(more if asks[2] else 0)]
    told = {name: plain_doc(inner, leaves, more) for name, inner in asks[1].items()}
    told.update({"more" + "xyz"[number]: next(leaves) for number in range(more if asks[3] else 0)})
    return told


def open_paths(asks):
    """The paths of all open rows and tables in the asks, with their asks."""
    return [(path, told) for path, told in told_paths(asks) if told[0] in ("row", "table") and told[-1]]


def room_paths(asks, names):
    """Where a document of the asks may have one part more: these names in tables that may have them."""
    found = []
    for path, told in open_paths(asks):
        if told[0] == "row":
            found.append(path + (len(told[1]),))
        else:
            found.extend(path + (name,) for name in names if name not in told[1] and name not in told[2])
    return found


def near_docs(asks):
    """A least document that the asks let in, with leaves that stand nowhere else, and those with one part more.

    Where other asks don't let in all that these do, and have no names but NAMES
    and d, they don't let in one of these documents.
    """
    least = plain_doc(asks, itertools.count(1000))
    told = [least]
    for path in room_paths(asks, NAMES + ("d", "none")):
        doc = twin(least)
        holder = doc
        for step in path[:-1]:
            holder = holder[step]
        if isinstance(holder, list):
            holder.append(999)
        else:
            holder[path[-1]] = 999
        told.append(doc)
    return told
