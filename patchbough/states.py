"""States: which documents some rows of a patch fit, and what they make of each of these.

A state is a tuple (asks, makes). The asks needn't be in good form, nor the
makes settled. In a state a row or table of makes has a fourth thing: the asks
at its tail or rest, as they were when it was last told out. What was copied
stands at two places; where more is asked at the one, the other is told out
anew only when it is looked at. Where no document is left that fits, it is
refused with NoFit.
"""

from patchbough.asks import ANY, both_of, filled, found_asks, inner_nodes, is_open
from patchbough.docs import add_at, are_equal, inner_of, kind_of, outer_copy, steps_of
from patchbough.errors import NoFit
from patchbough.makes import tells
from patchbough.paths import holds
from patchbough.settling import grown
from patchbough.walks import folded

FIRST = (("any",), ("from", ()))


def node_at(root, path):
    """The asks or makes that stand at a path within others."""
    node = root
    for step in path:
        node = node[1][step]
    return node


def with_at(root, path, node):
    """Asks or makes like these, with others in the place of those at a path."""
    told = node
    for at in range(len(path) - 1, -1, -1):
        above = node_at(root, path[:at])
        holder = outer_copy(above[1])
        holder[path[at]] = told
        told = (above[0], holder) + above[2:]
    return told


def all_of(kind):
    """The asks that let in all rows, or all tables."""
    if kind == "row":
        return ("row", [], True)
    return ("table", {}, [], True)


def unfolded(node, asks):
    """Makes of a row or table told cell by cell or name by name; makes of something else as they are."""
    if node[0] == "just":
        return unfolded_just(node)
    if node[0] != "from":
        return node
    found = found_asks(asks, node[1])
    if found[0] == "any":
        return node
    if found[0] == "just":
        return unfolded_just(found)
    none = all_of(found[0])
    return caught_up((found[0], none[1], node[1], none), asks)


def unfolded_just(node):
    """The makes of a just row or table as those of its cells or names; of a leaf as they are."""
    if not isinstance(node[1], (list, dict)):
        return node
    return (kind_of(node[1]), filled(node[1], [("just", part) for part in inner_of(node[1])]), None, None)


def caught_up(node, asks):
    """Makes of a row or table, told out as far as the asks tell by now."""
    if node[2] is None:
        return node
    there = found_asks(asks, node[2])
    return (node[0], grown(node[1], node[2], node[3], there), node[2] if is_open(there) else None, there)


def plain_makes(state):
    """The makes of a state as makes over its asks, told out all through."""
    return folded(state[1], inner_nodes, lambda node, told: plain_part(node, told, state[0]))


def plain_part(node, told, asks):
    """Makes over the asks, of makes of a state and of what was told of those within them."""
    if node[0] in ("just", "from"):
        return node
    return caught_up((node[0], filled(node[1], told)) + node[2:], asks)[:3]


def entered(state, path, kind):
    """The state in which what stands at a path is of this kind; there its makes are told out."""
    asks = state[0]
    node = unfolded(node_at(state[1], path), asks)
    if node[0] == "from":
        asks = with_at(asks, node[1], all_of(kind))
        node = unfolded(node, asks)
    if node[0] != kind:
        raise NoFit(0)
    return (asks, with_at(state[1], path, caught_up(node, asks)))


def narrowed_rest(state, path, found):
    """The state with these narrower asks at the tail or rest of the row or table that was entered at a path."""
    node = node_at(state[1], path)
    asks = with_at(state[0], node[2], found)
    return (asks, with_at(state[1], path, caught_up(node, asks)))


def with_cells(state, path, count):
    """The state in which the row that was entered at a path has so many cells or more."""
    node = node_at(state[1], path)
    short = count - len(node[1])
    if short <= 0:
        return state
    if node[2] is None:
        raise NoFit(0)
    return narrowed_rest(state, path, ("row", node[3][1] + [ANY] * short, True))


def is_without(node, name):
    """Whether a table of makes is known to have this name among those that it tells or not at all."""
    return node[2] is None or tells(node[3], name)


def with_name(state, path, name):
    """The state in which the table that was entered at a path has the name."""
    node = node_at(state[1], path)
    if name in node[1]:
        return state
    if is_without(node, name):
        raise NoFit(0)
    names = dict(node[3][1])
    names[name] = ANY
    return narrowed_rest(state, path, ("table", names, node[3][2], True))


def without_name(state, path, name):
    """The state in which the table that was entered at a path lacks the name."""
    node = node_at(state[1], path)
    if name in node[1]:
        raise NoFit(0)
    if is_without(node, name):
        return state
    return narrowed_rest(state, path, ("table", node[3][1], sorted(node[3][2] + [name]), True))


def kind_into(step):
    """The kind of what a step leads into."""
    if isinstance(step, str):
        return "table"
    return "row"


def reached(state, path):
    """The state in which something stands at a path; its makes are told out up to there."""
    told = state
    for at, step in enumerate(path):
        told = entered(told, path[:at], kind_into(step))
        if isinstance(step, str):
            told = with_name(told, path[:at], step)
        else:
            told = with_cells(told, path[:at], step + 1)
    return told


def with_room(state, path):
    """The state in which something can be put at a path; its makes are told out up to the holder."""
    holder = path[:-1]
    step = path[-1]
    told = entered(reached(state, holder), holder, kind_into(step))
    if isinstance(step, str):
        return without_name(told, holder, step)
    return with_cells(told, holder, step)


def makes_put(makes, path, part):
    """Makes with others put at a path at which there is room."""
    above = node_at(makes, path[:-1])
    holder = outer_copy(above[1])
    if isinstance(holder, list):
        holder.insert(path[-1], part)
    else:
        holder[path[-1]] = part
    return with_at(makes, path[:-1], (above[0], holder) + above[2:])


def makes_taken(makes, path):
    """Makes without those at a path."""
    above = node_at(makes, path[:-1])
    holder = outer_copy(above[1])
    holder.pop(path[-1])
    return with_at(makes, path[:-1], (above[0], holder) + above[2:])


def moved(state, path, to):
    """The state behind a move."""
    ahead = reached(state, path)
    part = node_at(ahead[1], path)
    # The rest and the part stand side by side, so that both belong to one state while more is asked.
    both = (ahead[0], ("row", [makes_taken(ahead[1], path), part], None, None))
    told = with_room(both, (0,) + to)
    return (told[0], makes_put(node_at(told[1], (0,)), to, node_at(told[1], (1,))))


def copied(state, path, to):
    """The state behind a copy."""
    told = with_room(reached(state, path), to)
    return (told[0], makes_put(told[1], to, node_at(told[1], path)))


def just_here(state, path, value):
    """The state in which a part that was reached is equal to the value."""
    asks = state[0]
    for place, wanted in wants_of(node_at(state[1], path), value, asks):
        asks = asked_at(asks, place, wanted)
    return (asks, state[1])


def asked_at(asks, path, wanted):
    """The asks that let in what these do, where the wanted ones let in the part at a path."""
    found = found_asks(asks, path)
    both = both_of(found, wanted)
    if both is None:
        raise NoFit(0)
    if found[0] == "just":
        return asks
    return with_at(asks, path, both)


def wants_of(makes, value, asks):
    """Tuples of path and asks: what is wanted of the handed document for the makes to make just this value."""
    wants = []
    waiting = [(makes, value)]
    while waiting:
        pair = waiting.pop()
        node = pair[0]
        part = pair[1]
        if node[0] == "from":
            wants.append((node[1], ("just", part)))
        elif node[0] == "just":
            refuse_unless(are_equal(node[1], part))
        else:
            node = caught_up(node, asks)
            refuse_unless(node[0] == kind_of(part) and all([holds(part, step) for step in steps_of(node[1])]))
            waiting.extend([(node[1][step], part[step]) for step in steps_of(node[1])])
            wants.extend(wants_of_rest(node, part))
    return wants


def refuse_unless(holds_good):
    """Refuses where something that must hold doesn't."""
    if not holds_good:
        raise NoFit(0)


def wants_of_rest(node, value):
    """What is wanted of the tail or rest of makes: just those cells or names that they don't tell."""
    more = [step for step in steps_of(value) if not holds(node[1], step)]
    if node[2] is None:
        refuse_unless(more == [])
        return []
    found = node[3]
    holder = filled(found[1], [ANY] * len(found[1]))
    for step in more:
        refuse_unless(node[0] == "row" or not tells(found, step))
        add_at(holder, step, ("just", value[step]))
    if node[0] == "row":
        return [(node[2], ("row", holder, False))]
    return [(node[2], ("table", holder, [], False))]


def state_behind(state, row):
    """The state behind a row of a patch."""
    word = row[0]
    path = row[1]
    if word == "move":
        return moved(state, path, row[2])
    if word == "copy":
        return copied(state, path, row[2])
    if word == "lacks":
        return with_room(state, path)
    if word == "put":
        told = with_room(state, path)
        return (told[0], makes_put(told[1], path, ("just", row[2])))
    told = reached(state, path)
    if word == "take":
        return (told[0], makes_taken(told[1], path))
    if word == "change":
        return (told[0], with_at(told[1], path, ("just", row[2])))
    if word == "ask":
        return just_here(told, path, row[2])
    if word == "is":
        return entered(told, path, row[2])
    return told
