"""Documents for the tests, and ways to hold documents against one another.

Nothing here calls the program: what it tells is held against what is reckoned here.
"""


def nested():
    """Documents of all kinds, made anew at each call."""
    return [
        0,
        -7,
        10 ** 59,
        "",
        "abcdefghijkl",
        [],
        {},
        [[]],
        [{}],
        {"a": []},
        {"a": {}},
        [5, {"b": 6, "a": []}],
        [[1, 2], [1, 2], [[1, 2]]],
        {"a": {"a": {"a": 1}}, "ab": ["a", "a"], "b": {"a": {"a": 1}}},
        {"rows": [[], [0], ["", [{}, {"x": [3]}]]], "n": 4, "abcdefgh": {"z": "z", "y": -1}},
    ]


def chain(depth, bottom):
    """Rows and tables in turn, so many deep, around what stands at the bottom."""
    thing = bottom
    for level in range(depth):
        thing = [thing] if level % 2 == 0 else {"a": thing}
    return thing


def twin(thing):
    """An equal thing that shares no list and no dict, within itself either."""
    if isinstance(thing, list):
        return [twin(cell) for cell in thing]
    if isinstance(thing, tuple):
        return tuple(twin(cell) for cell in thing)
    if isinstance(thing, dict):
        return {key: twin(value) for key, value in thing.items()}
    return thing


def alike(one, other):
    """Whether two things are equal, of the very same kinds all through."""
    if type(one) is not type(other):
        return False
    if isinstance(one, (list, tuple)):
        return len(one) == len(other) and all(alike(*pair) for pair in zip(one, other))
    if isinstance(one, dict):
        return one.keys() == other.keys() and all(alike(one[key], other[key]) for key in one)
    return one == other


def holders(thing):
    """Every list and dict in a thing, place by place, itself among them."""
    inner = []
    if isinstance(thing, (list, tuple)):
        inner = list(thing)
    elif isinstance(thing, dict):
        inner = [thing[key] for key in sorted(thing)]
    found = [thing] if isinstance(thing, (list, dict)) else []
    for part in inner:
        found.extend(holders(part))
    return found


def spoil(holder):
    """Change one list or dict: what it had is gone from it, and something else is there."""
    holder.clear()
    if isinstance(holder, list):
        holder.append("spoiled")
    else:
        holder["spoiled"] = 1


def spoil_all(thing):
    """Change each list and dict of a thing, the innermost first."""
    for holder in reversed(holders(thing)):
        spoil(holder)


def routes(doc):
    """The path of each part, with the part itself, in the order of the document."""
    found = [((), doc)]
    if isinstance(doc, list):
        steps = range(len(doc))
    elif isinstance(doc, dict):
        steps = sorted(doc)
    else:
        steps = []
    for step in steps:
        found.extend(((step,) + path, part) for path, part in routes(doc[step]))
    return found


def rooms(doc):
    """Every path of a document at which can be put, a new name for each table."""
    found = []
    for path, part in routes(doc):
        if isinstance(part, list):
            found.extend(path + (place,) for place in range(len(part) + 1))
        elif isinstance(part, dict):
            found.extend(path + (name,) for name in ("aa", "zz") if name not in part)
    return found


def stand_by_themselves(case, function, things):
    """Each row and table of what is told is changed alone, and nothing else of it is changed by that."""
    expected = twin(function(*things))
    for number in range(len(holders(expected))):
        with case.subTest(function=function.__name__, things=things, number=number):
            told = function(*things)
            wanted = twin(expected)
            spoil(holders(told)[number])
            spoil(holders(wanted)[number])
            case.assertTrue(alike(told, wanted))


def stays_as_it_was(case, function, things):
    """The call changes nothing that is handed in."""
    before = twin(things)
    with case.subTest(function=function.__name__, things=before):
        function(*things)
        case.assertTrue(alike(things, before))


def is_the_askers_own(case, function, things):
    """What is told, changed all through, changes nothing that was handed in, was told, or is told again."""
    before = twin(things)
    with case.subTest(function=function.__name__, things=before):
        ahead = function(*things)
        expected = twin(ahead)
        spoil_all(function(*things))
        case.assertTrue(alike(things, before))
        case.assertTrue(alike(ahead, expected))
        case.assertTrue(alike(function(*things), expected))


def stays_behind_the_call(case, function, things):
    """What was handed in, changed all through behind the call, changes nothing that was told."""
    handed = twin(things)
    with case.subTest(function=function.__name__, things=things):
        told = function(*handed)
        expected = twin(told)
        spoil_all(handed)
        case.assertTrue(alike(told, expected))


def is_new_through_and_through(case, function, things):
    """All that holds of a call that tells a list, a dict or a document, [0.2]."""
    stays_as_it_was(case, function, things)
    is_the_askers_own(case, function, things)
    stand_by_themselves(case, function, things)
    stays_behind_the_call(case, function, things)
