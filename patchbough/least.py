"""The least documents that asks let in, and those with one part more."""

from patchbough.asks import filled, inner_nodes, is_open
from patchbough.docs import LETTERS, copy_of, inner_of, size_of, steps_of
from patchbough.edits import put_at
from patchbough.walks import folded, gathered


def least_size(asks):
    """The fewest parts of a document that the asks let in."""
    return folded(asks, inner_nodes, least_part)


def least_part(asks, told):
    """The least size of asks, of those of the asks within them."""
    if asks[0] == "just":
        return size_of(asks[1])
    return 1 + sum(told)


def justs_in(asks):
    """The documents of all justs in the asks."""
    return [node[1] for node in gathered(asks, inner_nodes) if node[0] == "just"]


def leaves_in(docs):
    """A dict whose keys are the leaves of all these documents."""
    leaves = {}
    for part in gathered(docs, inner_of):
        if not isinstance(part, (list, dict)):
            leaves[part] = True
    return leaves


class Leaves:
    """Leaves that are unlike one another and unlike all leaves of some documents."""

    def __init__(self, docs):
        self.used = leaves_in(docs)
        self.number = 0

    def fresh(self):
        """A leaf that was not told so far."""
        while self.number in self.used:
            self.number = self.number + 1
        self.used[self.number] = True
        return self.number


def sample(asks, avoid):
    """A least document that the asks let in, with leaves of its own where any may stand."""
    return sample_of(asks, Leaves(justs_in(asks) + avoid))


def sample_of(asks, leaves):
    """A least document that the asks let in, with these leaves where any may stand."""
    return folded(asks, inner_nodes, lambda node, told: sample_part(node, told, leaves))


def sample_part(asks, told, leaves):
    """A document that the asks let in, of those that the asks within them let in."""
    if asks[0] == "any":
        return leaves.fresh()
    if asks[0] == "just":
        return copy_of(asks[1])
    return filled(asks[1], told)


def roomier(asks, avoid, names):
    """Documents that the asks let in, each like a sample but for one part more."""
    leaves = Leaves(justs_in(asks) + avoid)
    least = sample_of(asks, leaves)
    leaf = leaves.fresh()
    wanted = sorted(set(names)) + [new_name(names_in(asks) + names)]
    told = []
    for entry in gathered(((), asks), entries_within):
        for step in free_steps(entry[1], wanted):
            told.append(put_at(least, entry[0] + (step,), leaf))
    return told


def entries_within(entry):
    """Tuples of path and asks: those right within the asks of such a tuple."""
    path = entry[0]
    node = entry[1]
    if node[0] not in ("row", "table"):
        return []
    return [(path + (step,), node[1][step]) for step in steps_of(node[1])]


def free_steps(asks, wanted):
    """The steps at which a least document may have one part more right here."""
    if not is_open(asks):
        return []
    if asks[0] == "row":
        return [len(asks[1])]
    return [name for name in wanted if name not in asks[1] and name not in asks[2]]


def names_in(asks):
    """All names that stand in the asks: there, lacking, or in a just."""
    found = []
    for node in gathered(asks, inner_nodes):
        if node[0] == "table":
            found.extend(list(node[1]) + node[2])
    for part in gathered(justs_in(asks), inner_of):
        if isinstance(part, dict):
            found.extend(list(part))
    return found


def new_name(taken):
    """The first name, as name_of counts them, that is none of those taken."""
    count = 0
    while name_of(count) in taken:
        count = count + 1
    return name_of(count)


def name_of(count):
    """A name for each number from 0: a to z, then aa, ab and so on."""
    name = LETTERS[count % len(LETTERS)]
    rest = count // len(LETTERS)
    while rest > 0:
        name = LETTERS[(rest - 1) % len(LETTERS)] + name
        rest = (rest - 1) // len(LETTERS)
    return name
