"""Makes for the tests, and what they make, reckoned by hand.

Nothing here calls the program: what it tells is held against what is reckoned here.
"""

import itertools

from askings import NAMES, near_docs, plain_doc, told_paths
from samples import alike, routes, twin

JUSTS = (5, 7, "x", [], {}, [5], {"a": 5}, [[], 7])


def told_at(asks, path):
    """What the asks tell at a path, or None."""
    return dict(told_paths(asks)).get(path)


def part(doc, path):
    for step in path:
        doc = doc[step]
    return twin(doc)


def make(makes, asks, doc):
    """What the makes make of a document, told as [5.1] tells it."""
    word = makes[0]
    if word == "just":
        return twin(makes[1])
    if word == "from":
        return part(doc, makes[1])
    if word == "row":
        told = [make(inner, asks, doc) for inner in makes[1]]
        if makes[2] is not None:
            told.extend(part(doc, makes[2])[len(told_at(asks, makes[2])[1]):])
        return told
    told = {name: make(inner, asks, doc) for name, inner in makes[1].items()}
    if makes[2] is not None:
        there = told_at(asks, makes[2])
        for name, value in part(doc, makes[2]).items():
            if name not in there[1] and name not in there[2]:
                told[name] = value
    return told


def tell_apart(asks):
    """Documents that the asks let in, of which makes over them that make unlike things make unlike ones.

    What stands for each any, and what there is more than the asks tell, is
    unlike all else; and there are none, some and more of those.
    """
    return near_docs(asks) + [plain_doc(asks, itertools.count(2000), more) for more in (0, 1, 2, 3)]


def do_same(one, other, asks):
    """Whether two makes over the asks make the same of each document that these let in."""
    return all(alike(make(one, asks, doc), make(other, asks, doc)) for doc in tell_apart(asks))


def wild_makes(chance, asks, depth):
    """Makes over the asks, of all four kinds, nested in one another at most so deep."""
    paths = told_paths(asks)
    word = chance.choice(("just", "from", "from") if depth <= 1 else ("just", "from", "row", "row", "table", "table"))
    if word == "just":
        return ("just", twin(chance.choice(JUSTS)))
    if word == "from":
        return ("from", chance.choice(paths)[0])
    rests = [path for path, told in paths if told[0] == word and told[-1]]
    rest = chance.choice(rests) if rests and chance.random() < 0.7 else None
    if word == "row":
        return ("row", [wild_makes(chance, asks, depth - 1) for number in range(chance.choice((0, 1, 1, 2, 3)))], rest)
    names = NAMES if rest is None else list(told_at(asks, rest)[1]) + told_at(asks, rest)[2]
    return ("table", {name: wild_makes(chance, asks, depth - 1) for name in names if chance.random() < 0.6}, rest)


def told_out(chance, makes, asks, often):
    """Makes that make the same: some froms and justs within them told out cell by cell and name by name."""
    word = makes[0]
    if word in ("just", "from") and chance.random() >= often:
        # What is just one document may stand as the from of it too, and the other way round.
        there = told_at(asks, makes[1]) if word == "from" else None
        return ("just", twin(there[1])) if there and there[0] == "just" and chance.random() < 0.5 else twin(makes)
    if word == "just":
        return just_out(chance, makes, asks, often)
    if word == "from":
        return from_out(chance, makes, asks, often)
    if word == "row":
        return ("row", [told_out(chance, inner, asks, often) for inner in makes[1]], makes[2])
    return ("table", {name: told_out(chance, inner, asks, often) for name, inner in makes[1].items()}, makes[2])


def just_out(chance, makes, asks, often):
    doc = makes[1]
    if isinstance(doc, list):
        return ("row", [told_out(chance, ("just", cell), asks, often) for cell in doc], None)
    if isinstance(doc, dict):
        return ("table", {name: told_out(chance, ("just", doc[name]), asks, often) for name in doc}, None)
    return makes


def from_out(chance, makes, asks, often):
    path = makes[1]
    there = told_at(asks, path)
    if there[0] == "any":
        return makes
    if there[0] == "just":
        return just_out(chance, there, asks, often)
    rest = path if there[-1] else None
    if there[0] == "row":
        return ("row", [told_out(chance, ("from", path + (step,)), asks, often) for step in range(len(there[1]))], rest)
    return ("table", {name: told_out(chance, ("from", path + (name,)), asks, often) for name in there[1]}, rest)


def is_settled(makes, asks):
    """Whether makes are settled, told as [5.4] tells it, but for rows and tables that are the from of a path."""
    word = makes[0]
    if word == "just":
        return True
    if word == "from":
        return told_at(asks, makes[1])[0] != "just"
    inner = makes[1] if word == "row" else list(makes[1].values())
    if makes[2] is None and all(other[0] == "just" for other in inner):
        return False
    return all(is_settled(other, asks) for other in inner)


def nodes(makes):
    """All makes within makes, they themselves among them."""
    inner = makes[1] if makes[0] in ("row", "table") else []
    inner = list(inner.values()) if isinstance(inner, dict) else inner
    return [makes] + [node for other in inner for node in nodes(other)]


def is_some_from(makes, asks):
    """Whether a row or table makes of each document the part at one path of which the asks don't tell a just."""
    return any(do_same(makes, ("from", path), asks) for path, told in told_paths(asks) if told[0] != "just")


def all_leaves(docs):
    return [end for doc in docs for path, end in routes(doc) if not isinstance(end, (list, dict))]
