"""Documents for the tests, and ways to hold documents against one another.

Nothing here calls the program: what it tells is held against what is reckoned here.
"""

import copy


def nested():
    """Documents of all kinds, made anew at each call."""
    return [
        0,
        -7,
        10 ** 59,
        "",
        "abcdefghijkl",
        [],
        {},
        [[]],
        [{}],
        {"a": []},
        {"a": {}},
        [5, {"b": 6, "a": []}],
        [[1, 2], [1, 2], [[1, 2]]],
        {"a": {"a": {"a": 1}}, "ab": ["a", "a"], "b": {"a": {"a": 1}}},
        {"rows": [[], [0], ["", [{}, {"x": [3]}]]], "n": 4, "abcdefgh": {"z": "z", "y": -1}},
    ]


def chain(depth, bottom):
    """Rows and tables in turn, so many deep, around what stands at the bottom."""
    thing = bottom
    for level in range(depth):
        thing = [thing] if level % 2 == 0 else {"a": thing}
    return thing


def twin(thing):
    """An equal thing that shares no list and no dict, within itself either."""
    if isinstance(thing, list):
        return [twin(cell) for cell in thing]
    if isinstance(thing, tuple):
        return tuple(twin(cell) for cell in thing)
    if isinstance(thing, dict):
        return {key: twin(value) for key, value in thing.items()}
    return copy.copy(thing)


def alike(one, other):
    """Whether two things are equal, of the very same kinds all through."""
    if type(one) is not type(other):
        return False
    if isinstance(one, (list, tuple)):
        return len(one) == len(other) and all(alike(*pair) for pair in zip(one, other))
    if isinstance(one, dict):
        return one.keys() == other.keys() and all(alike(one[key], other[key]) for key in one)
    return one == other


def holders(thing):
    """Every list and dict in a thing, place by place, itself among them."""
    inner = []
    if isinstance(thing, (list, tuple)):
        inner = list(thing)
    elif isinstance(thing, dict):
        inner = [thing[key] for key in sorted(thing)]
    found = [thing] if isinstance(thing, (list, dict)) else []
    for part in inner:
        found.extend(holders(part))
    return found


def spoil(holder):
    """Change one list or dict: what it had is gone from it, and something else is there."""
    holder.clear()
    if isinstance(holder, list):
        holder.append("spoiled")
    else:
        holder["spoiled"] = 1


def spoil_all(thing):
    """Change each list and dict of a thing, the innermost first."""
    for holder in reversed(holders(thing)):
        spoil(holder)


def routes(doc):
    """The path of each part, with the part itself, in the order of the document."""
    found = [((), doc)]
    if isinstance(doc, list):
        steps = range(len(doc))
    elif isinstance(doc, dict):
        steps = sorted(doc)
    else:
        steps = []
    for step in steps:
        found.extend(((step,) + path, part) for path, part in routes(doc[step]))
    return found


def rooms(doc):
    """Every path of a document at which can be put, a new name for each table."""
    found = []
    for path, part in routes(doc):
        if isinstance(part, list):
            found.extend(path + (place,) for place in range(len(part) + 1))
        elif isinstance(part, dict):
            found.extend(path + (name,) for name in ("aa", "zz") if name not in part)
    return found
