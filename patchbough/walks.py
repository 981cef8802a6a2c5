"""Walks through things that hold things of their own kind: documents, asks, makes.

How deep such things are is bounded nowhere, so what waits to be looked at
stands in a list, and no function calls itself.
"""


def gathered(root, inner):
    """The root and all that stands within it; inner tells a list of what is right within a thing.

    A thing stands ahead of what is within it. What is right within one thing
    stands together, and ahead of what is right within any later thing.
    """
    found = [root]
    at = 0
    while at < len(found):
        found.extend(inner(found[at]))
        at = at + 1
    return found


def folded(root, inner, join):
    """What comes of the root, from within outwards.

    join tells what comes of a thing, of the thing itself and a list of what
    came of those right within it.
    """
    found = gathered(root, inner)
    told = [None] * len(found)
    end = len(found)
    for at in range(len(found) - 1, -1, -1):
        # Looked at from the last one on, each has its own right ahead of those of the later ones.
        start = end - len(inner(found[at]))
        told[at] = join(found[at], told[start:end])
        end = start
    return told[0]
