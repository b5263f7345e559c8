"""Cases that the tests share, and ways to spoil a thing at any of its places."""


def deep(kind, depth):
    thing = kind([0])
    for level in range(depth):
        thing = kind([thing, "x"])
    return thing


TOWN = (3, ((0, 1, 1), (0, 2, 3), (1, 2, 2)))
TELLINGS = (
    ("there", 0, 2, 2, 3),
    ("seen", 1, 1, 0, 6),
    ("never", 1, 0, 1, 1),
    ("met", 0, 1, 0, 6),
    ("apart", 1, 0, 1, 2),
)
CASE = (TOWN, 2, 6, TELLINGS)

# None of these may stand at any place of a town, a case, a telling, a day or a world.
NEVER_RIGHT = (
    None,
    True,
    False,
    "",
    "a",
    "There",
    "0",
    -1,
    10 ** 20,
    [],
    [0],
    [None, [True], ("a",)],
    (None,),
    (True, False),
    ((), ()),
    deep(list, 10),
    deep(tuple, 10),
)


def paths(thing):
    """All places within a thing of tuples, each as a tuple of indexes; () is the thing itself."""
    found = [()]
    if isinstance(thing, tuple):
        for index, part in enumerate(thing):
            found += [(index,) + path for path in paths(part)]
    return found


def part_at(thing, path):
    for index in path:
        thing = thing[index]
    return thing


def replaced(thing, path, new):
    if not path:
        return new
    index = path[0]
    return thing[:index] + (replaced(thing[index], path[1:], new),) + thing[index + 1:]


def with_odd_parts(thing):
    """The thing with each of NEVER_RIGHT at each of its places."""
    return [replaced(thing, path, odd) for path in paths(thing) for odd in NEVER_RIGHT]


def with_lists_for_tuples(thing):
    return [replaced(thing, path, list(part_at(thing, path)))
            for path in paths(thing) if isinstance(part_at(thing, path), tuple)]


def with_truths_for_numbers(thing):
    """The thing with a truth in the place of a 0 or a 1: equal to it, but none of its kind."""
    return [replaced(thing, path, part_at(thing, path) == 1)
            for path in paths(thing) if part_at(thing, path) in (0, 1)]


def with_other_lengths(thing):
    """The thing with each of its tuples that has parts cut by the last one, or with it twice."""
    spoilt = []
    for path in paths(thing):
        part = part_at(thing, path)
        if isinstance(part, tuple) and part:
            spoilt += [replaced(thing, path, part[:-1]), replaced(thing, path, part + part[-1:])]
    return spoilt


def spoilt(thing):
    """Things like this one that have a part of a wrong kind."""
    return with_odd_parts(thing) + with_lists_for_tuples(thing) + with_truths_for_numbers(thing)


def refusing(case_of_test, error, function, *given):
    """The call is refused with this very error, not with one above or below it."""
    with case_of_test.assertRaises(error) as held:
        function(*given)
    case_of_test.assertIs(type(held.exception), error)
