"""Asks: which documents are let in.

Asks hold the asks of their cells or names in a list or dict behind the word,
and so do makes; what is told here of what stands within goes for both.
"""

from patchbough.docs import are_equal, copy_of, inner_of, steps_of
from patchbough.paths import holds
from patchbough.walks import folded

ANY = ("any",)


def holder_in(node):
    """The list or dict of asks or makes that stand right within others; an empty one where none do."""
    if node[0] in ("row", "table"):
        return node[1]
    return []


def inner_nodes(node):
    """The asks or makes that stand right within others, in the order of paths."""
    return inner_of(holder_in(node))


def filled(holder, told):
    """A list or dict with the steps of a holder, and at them what is told, in the order of paths."""
    if isinstance(holder, list):
        return list(told)
    return dict(zip(steps_of(holder), told))


def inner_just(holder):
    """The just of a row or table that holds justs alone; None where it holds something else."""
    inner = inner_of(holder)
    if any([node[0] != "just" for node in inner]):
        return None
    return ("just", filled(holder, [node[1] for node in inner]))


def is_open(asks):
    """Whether these are asks of an open row or table."""
    return asks[0] in ("row", "table") and asks[-1]


def lets_in(asks, doc):
    """Whether the asks let a document in."""
    waiting = [(asks, doc)]
    while waiting:
        pair = waiting.pop()
        if not lets_in_outside(pair[0], pair[1]):
            return False
        holder = holder_in(pair[0])
        waiting.extend([(holder[step], pair[1][step]) for step in steps_of(holder)])
    return True


def lets_in_outside(asks, doc):
    """Whether the asks let a document in, if those within them let in what is within it."""
    if asks[0] == "any":
        return True
    if asks[0] == "just":
        return are_equal(asks[1], doc)
    if asks[0] == "row":
        return isinstance(doc, list) and is_count(len(doc), len(asks[1]), asks[2])
    return isinstance(doc, dict) and has_names(asks, doc)


def is_count(count, least, more):
    """Whether so many are as many as the least, or more where there may be more."""
    return count == least or (more and count > least)


def has_names(asks, doc):
    """Whether a table has the names that it must have, and none that it may not have."""
    if any([name not in doc for name in asks[1]]) or any([name in doc for name in asks[2]]):
        return False
    return is_count(len(doc), len(asks[1]), asks[3])


def good_form(asks):
    """The asks in good form that let in the same documents."""
    return folded(asks, inner_nodes, good_part)


def good_part(asks, told):
    """Asks in good form, of asks and of what was told of those within them."""
    if asks[0] == "any":
        return ANY
    if asks[0] == "just":
        return ("just", copy_of(asks[1]))
    if asks[0] == "row":
        return good_row(told, asks[2])
    return good_table(filled(asks[1], told), asks[2], asks[3])


def good_row(cells, more):
    """Asks of a row in good form, of cells that are so."""
    just = inner_just(cells)
    if more or just is None:
        return ("row", cells, more)
    return just


def good_table(names, lacking, more):
    """Asks of a table in good form, of names whose asks are so."""
    if more:
        return ("table", names, list(lacking), True)
    just = inner_just(names)
    if just is None:
        return ("table", names, [], False)
    return just


def both_of(one, other):
    """The asks that let in what both let in, or None where nothing is."""
    return folded((one, other), pairs_within, both_part)


def pairs_within(pair):
    """The pairs of asks that stand at one step within both asks of a pair."""
    one = pair[0]
    other = pair[1]
    if not do_meet(one, other):
        return []
    return [(told_or_any(one, step), told_or_any(other, step)) for step in steps_of_both(one, other)]


def do_meet(one, other):
    """Whether both are asks of rows, or of tables, that can have as many cells, or the same names."""
    if one[0] == "row" and other[0] == "row":
        return can_have_cells(one, len(other[1])) and can_have_cells(other, len(one[1]))
    if one[0] == "table" and other[0] == "table":
        return can_have_names(one, other[1]) and can_have_names(other, one[1])
    return False


def can_have_cells(asks, count):
    """Whether asks of a row let in rows of so many cells or more."""
    return asks[2] or count <= len(asks[1])


def can_have_names(asks, names):
    """Whether asks of a table let in tables that have all these names."""
    return all([name in asks[1] or (asks[3] and name not in asks[2]) for name in names])


def told_or_any(asks, step):
    """What asks of a row or table tell at a step, or any where they tell nothing."""
    if holds(asks[1], step):
        return asks[1][step]
    return ANY


def steps_of_both(one, other):
    """The steps that one or the other asks of two rows, or of two tables, tell."""
    if one[0] == "row":
        return list(range(max(len(one[1]), len(other[1]))))
    return sorted(set(one[1]) | set(other[1]))


def both_part(pair, told):
    """The asks that both asks of a pair come to, of what was told of the pairs within them."""
    one = pair[0]
    other = pair[1]
    if one[0] == "any":
        return good_form(other)
    if other[0] == "any":
        return good_form(one)
    if one[0] == "just":
        return good_form(one) if lets_in(other, one[1]) else None
    if other[0] == "just":
        return good_form(other) if lets_in(one, other[1]) else None
    if not do_meet(one, other) or any([asks is None for asks in told]):
        return None
    if one[0] == "row":
        return good_row(told, one[2] and other[2])
    names = dict(zip(steps_of_both(one, other), told))
    return good_table(names, sorted(set(one[2]) | set(other[2])), one[3] and other[3])


def within(one, other):
    """Whether the other asks let in each document that the one let in."""
    return are_equal(both_of(one, other), good_form(one))


def asks_at(asks, path):
    """The asks of the part at a path, in good form, or None where nothing is told."""
    found = found_asks(asks, path)
    if found is None:
        return None
    return good_form(found)


def found_asks(asks, path):
    """The asks of the part at a path themselves, for callers who keep them to themselves, or None."""
    found = asks
    for step in path:
        if found[0] == "any" or not holds(found[1], step):
            return None
        if found[0] == "just":
            found = ("just", found[1][step])
        else:
            found = found[1][step]
    return found
