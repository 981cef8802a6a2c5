"""What rows do to documents, reckoned by hand, and rows and patches to try it with.

Nothing here calls the program: what it tells is held against what is reckoned here.
"""

from samples import alike, rooms, routes, twin

WORDS = ("put", "take", "change", "move", "copy", "ask", "has", "lacks", "is")


class Misfit(Exception):
    """A row doesn't fit a document."""


def at(doc, path):
    """The part at a path, the very one."""
    for step in path:
        kind = dict if isinstance(step, str) else list
        if type(doc) is not kind:
            raise Misfit
        try:
            doc = doc[step]
        except (KeyError, IndexError):
            raise Misfit from None
    return doc


def put(doc, path, value):
    holder, step = at(doc, path[:-1]), path[-1]
    if isinstance(step, str):
        if type(holder) is not dict or step in holder:
            raise Misfit
        holder[step] = value
    else:
        if type(holder) is not list or step > len(holder):
            raise Misfit
        holder[step:step] = [value]


def take(doc, path):
    part = at(doc, path)
    del at(doc, path[:-1])[path[-1]]
    return part


def lacks(doc, path):
    holder = at(doc, path[:-1])
    return type(holder) is dict and path[-1] not in holder


def by_hand(row, doc):
    """The document behind a row, or Misfit."""
    word, path, doc, row = row[0], row[1], twin(doc), twin(row)
    if word == "put":
        put(doc, path, row[2])
    elif word == "take":
        take(doc, path)
    elif word == "change" and path == ():
        at(doc, path)
        doc = row[2]
    elif word == "change":
        at(doc, path)
        at(doc, path[:-1])[path[-1]] = row[2]
    elif word == "move":
        put(doc, row[2], take(doc, path))
    elif word == "copy":
        put(doc, row[2], twin(at(doc, path)))
    elif word == "ask" and not alike(at(doc, path), row[2]):
        raise Misfit
    elif word == "has":
        at(doc, path)
    elif word == "lacks" and not lacks(doc, path):
        raise Misfit
    elif word == "is" and type(at(doc, path)) is not {"row": list, "table": dict}[row[2]]:
        raise Misfit
    return doc


def fits(row, doc):
    try:
        by_hand(row, doc)
    except Misfit:
        return False
    return True


def all_by_hand(rows, doc):
    """The documents ahead of each row and behind the last; Misfit with the place of the first that doesn't fit."""
    told = [twin(doc)]
    for number, row in enumerate(rows):
        try:
            told.append(by_hand(row, told[-1]))
        except Misfit:
            raise Misfit(number) from None
    return told


def is_lost(path, to):
    """Whether a move is none for this alone, that it leads into what it takes by a name."""
    return isinstance(path[-1], str) and len(path) < len(to) and to[:len(path)] == path


def may_stand(path):
    """Whether a path of a document may stand in a row."""
    return len(path) <= 12 and all(isinstance(step, str) or step <= 20 for step in path)


def rows_about(doc, value):
    """Good rows of all nine words at the parts of a document and the places where something can be put."""
    parts = [(path, part) for path, part in routes(doc) if may_stand(path)]
    rooms_here = [path for path in rooms(doc) if may_stand(path)]
    rows = []
    for path, part in parts:
        rows.extend([("has", path), ("ask", path, part), ("ask", path, value), ("change", path, value)])
        rows.extend([("is", path, "row"), ("is", path, "table")])
        rows.extend(("copy", path, to) for to in rooms_here)
        if path != ():
            rows.extend([("take", path), ("put", path, value)])
            rows.extend(("move", path, to) for to in rooms_here + [path] if not is_lost(path, to))
            rows.extend([("lacks", path)] if isinstance(path[-1], str) else [])
    for path in rooms_here:
        rows.extend([("put", path, value), ("has", path), ("take", path)])
        rows.extend([("lacks", path)] if isinstance(path[-1], str) else [])
    return [twin(row) for row in rows]


def wild_rows(chance, doc, count):
    """So many rows that fit the document one behind the other, with three copies at most."""
    rows = []
    stands = [twin(doc)]
    while len(rows) < count:
        value = chance.choice([5, "x", [], {}, [1, "y"], {"b": [2]}, {"a": {"b": 6}}, [[7], [7]]])
        found = [row for row in rows_about(stands[-1], value) if fits(row, stands[-1])]
        copies = sum(row[0] == "copy" for row in rows)
        words = sorted({row[0] for row in found if row[0] != "copy" or copies < 3})
        word = chance.choice(words)
        # Where a document grows too great to be tried, taking is favoured.
        if len(routes(stands[-1])) > 25 and "take" in words:
            word = "take"
        rows.append(chance.choice([row for row in found if row[0] == word]))
        stands.append(by_hand(rows[-1], stands[-1]))
    return rows


def outcome(rows, doc):
    """The document behind all rows, or None where one doesn't fit."""
    try:
        return all_by_hand(rows, doc)[-1]
    except Misfit:
        return None


def neighbours(doc):
    """Documents near this one: each part of it changed, each taken, and something put at each place."""
    told = []
    for path, part in routes(doc):
        told.extend(by_hand(("change", path, value), doc) for value in (77, "near", [], {}, [part]))
        if path != ():
            told.append(by_hand(("take", path), doc))
        if isinstance(part, list):
            told.append(by_hand(("put", path + (len(part),), 78), doc))
        if isinstance(part, dict) and "near" not in part:
            told.append(by_hand(("put", path + ("near",), 78), doc))
    return told


def blind_path(chance, least):
    return tuple(chance.choice(("a", "b", 0, 0, 1, 2)) for number in range(chance.randint(least, 3)))


def blind_row(chance, words):
    """A good row of one of these words, with no document in sight."""
    word, path, to = chance.choice(words), blind_path(chance, 0), blind_path(chance, 1)
    value = twin(chance.choice([5, 6, "x", [], {}, [5], {"a": 5}, [[], 5], {"a": 5, "b": []}]))
    if word in ("put", "take", "move", "lacks"):
        path, to = to, blind_path(chance, 1)
    if word == "lacks":
        path = path[:-1] + (chance.choice("ab"),)
    if word in ("put", "change", "ask"):
        return (word, path, value)
    if word in ("move", "copy"):
        return (word, path, path if word == "move" and is_lost(path, to) else to)
    return (word, path, chance.choice(("row", "table"))) if word == "is" else (word, path)


def blind_rows(chance, count):
    """So many good rows, with three copies at most, that needn't fit anything."""
    rows = []
    for number in range(count):
        copies = sum(row[0] == "copy" for row in rows)
        rows.append(blind_row(chance, WORDS if copies < 3 else [word for word in WORDS if word != "copy"]))
    return rows
