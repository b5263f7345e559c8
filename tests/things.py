"""What the tests share: cases, ways to spoil a thing at any of its places, and other code than the program's own that
goes through all worlds, and all marks, of small cases."""

import copy
import functools
import itertools
import random


def deep(kind, depth):
    thing = kind([0])
    for level in range(depth):
        thing = kind([thing, "x"])
    return thing


TOWN = (3, ((0, 1, 1), (0, 2, 3), (1, 2, 2)))
TELLINGS = (
    ("there", 0, 2, 2, 3),
    ("seen", 1, 1, 0, 6),
    ("never", 1, 0, 1, 1),
    ("met", 0, 1, 0, 6),
    ("apart", 1, 0, 1, 2),
)
CASE = (TOWN, 2, 6, TELLINGS)

# None of these may stand at any place of a town, a case, a telling, a day or a world.
NEVER_RIGHT = (
    None,
    True,
    False,
    "",
    "a",
    "There",
    "0",
    -1,
    10 ** 20,
    [],
    [0],
    [None, [True], ("a",)],
    (None,),
    (True, False),
    ((), ()),
    deep(list, 10),
    deep(tuple, 10),
)


def paths(thing):
    """All places within a thing of tuples, each as a tuple of indexes; () is the thing itself."""
    found = [()]
    if isinstance(thing, tuple):
        for index, part in enumerate(thing):
            found += [(index,) + path for path in paths(part)]
    return found


def part_at(thing, path):
    for index in path:
        thing = thing[index]
    return thing


def replaced(thing, path, new):
    if not path:
        return new
    index = path[0]
    return thing[:index] + (replaced(thing[index], path[1:], new),) + thing[index + 1:]


def with_odd_parts(thing):
    """The thing with each of NEVER_RIGHT at each of its places."""
    return [replaced(thing, path, odd) for path in paths(thing) for odd in NEVER_RIGHT]


def with_lists_for_tuples(thing):
    return [replaced(thing, path, list(part_at(thing, path)))
            for path in paths(thing) if isinstance(part_at(thing, path), tuple)]


def with_truths_for_numbers(thing):
    """The thing with a truth in the place of a 0 or a 1: equal to it, but none of its kind."""
    return [replaced(thing, path, part_at(thing, path) == 1)
            for path in paths(thing) if part_at(thing, path) in (0, 1)]


def with_other_lengths(thing):
    """The thing with each of its tuples that has parts cut by the last one, or with it twice."""
    spoilt = []
    for path in paths(thing):
        part = part_at(thing, path)
        if isinstance(part, tuple) and part:
            spoilt += [replaced(thing, path, part[:-1]), replaced(thing, path, part + part[-1:])]
    return spoilt


def spoilt(thing):
    """Things like this one that have a part of a wrong kind."""
    return with_odd_parts(thing) + with_lists_for_tuples(thing) + with_truths_for_numbers(thing)


def refusing(case_of_test, error, function, *given):
    """The call is refused with this very error, not with one above or below it."""
    with case_of_test.assertRaises(error) as held:
        function(*given)
    case_of_test.assertIs(type(held.exception), error)


def told_anew(case_of_test, function, *given):
    """The lists told are new ones each time, all the way down, and what is handed in is left as it was."""
    before = copy.deepcopy(given)
    told = function(*given)
    expected = copy.deepcopy(told)
    spoil_lists(told)
    case_of_test.assertEqual(given, before)
    case_of_test.assertEqual(function(*given), expected)


def spoil_lists(thing):
    if isinstance(thing, list):
        for part in thing:
            spoil_lists(part)
        thing.append("changed")


# From here on, worlds and marks by going through all of them, from the words of the document.

WORDS = ("there", "seen", "never", "met", "apart")


def days_by_choosing(town, last):
    """All days, made by choosing at each place to stay or to go a whole way."""
    between = [(one, other, takes) for one, other, takes in town[1]]
    between += [(other, one, takes) for one, other, takes in town[1]]
    open_days = [((place, 0),) for place in range(town[0])]
    done = set()
    while open_days:
        day = open_days.pop()
        if len(day) > last:
            done.add(day[:last + 1])
            continue
        place = day[-1][0]
        open_days.append(day + ((place, 0),))
        for start, goal, takes in between:
            if start == place:
                open_days.append(day + tuple((goal, left) for left in reversed(range(takes))))
    return done


@functools.lru_cache(maxsize=None)
def whatever_worlds(town, persons, last):
    return tuple(itertools.product(sorted(days_by_choosing(town, last)), repeat=persons))


def so_at(world, telling, moment):
    word, who, what = telling[:3]
    place, left = world[who][moment]
    if left:
        return False
    return world[what][moment] == (place, 0) if word in ("met", "apart") else place == what


def told_true(world, telling):
    moments = [moment for moment in range(len(world[0])) if telling[3] <= moment <= telling[4]]
    so = sum(so_at(world, telling, moment) for moment in moments)
    return {"there": so == len(moments), "seen": so > 0, "never": so == 0, "met": so > 0, "apart": so == 0}[telling[0]]


@functools.lru_cache(maxsize=None)
def true_worlds(case):
    """All worlds in which all tellings are true."""
    town, persons, last, tellings = case
    return tuple(world for world in whatever_worlds(town, persons, last)
                 if all(told_true(world, telling) for telling in tellings))


@functools.lru_cache(maxsize=None)
def true_sets(case):
    """For each world, whatever the tellings, the set of the numbers of those that are true."""
    town, persons, last, tellings = case
    return {frozenset(number for number, telling in enumerate(tellings) if told_true(world, telling))
            for world in whatever_worlds(town, persons, last)}


def done_till(world, telling, moment):
    return telling[0] in ("seen", "met") and any(
        so_at(world, telling, earlier) for earlier in range(telling[3], min(telling[4], moment) + 1))


def lost_at(world, telling, moment):
    if telling[0] in ("seen", "met"):
        return moment >= telling[4] and not done_till(world, telling, moment)
    asked = telling[3] <= moment <= telling[4]
    return asked and so_at(world, telling, moment) == (telling[0] != "there")


def marks_by_walking(case):
    """For each moment all marks that come, by going through all worlds up to there."""
    town, persons, last, tellings = case
    found = []
    for moment in range(last + 1):
        marks = set()
        for world in whatever_worlds(town, persons, moment):
            if not any(lost_at(world, telling, earlier) for telling in tellings for earlier in range(moment + 1)):
                stands = tuple(day[-1] for day in world)
                marks.add((stands, tuple(done_till(world, telling, moment) for telling in tellings)))
        found.append(sorted(marks))
    return found


def marks_behind_one(case, moment, mark):
    """All marks that come at this moment behind this one, which need not come itself."""
    town, persons, last, tellings = case
    choices = []
    for place, left in mark[0]:
        goals = [(other, takes - 1) for one, other, takes in town[1] if one == place]
        goals += [(one, takes - 1) for one, other, takes in town[1] if other == place]
        choices.append([(place, left - 1)] if left else goals + [(place, 0)])
    found = []
    for stands in itertools.product(*choices):
        # A world in which nobody ever moves is so at this moment just as these stands are.
        still = tuple((stand,) * (moment + 1) for stand in stands)
        so = [so_at(still, telling, moment) and telling[3] <= moment <= telling[4] for telling in tellings]
        done = tuple(ahead or (telling[0] in ("seen", "met") and here)
                     for telling, ahead, here in zip(tellings, mark[1], so))
        lost = [not at_mark and moment >= telling[4] if telling[0] in ("seen", "met")
                else telling[3] <= moment <= telling[4] and here == (telling[0] != "there")
                for telling, at_mark, here in zip(tellings, done, so)]
        if not any(lost):
            found.append((stands, done))
    return found


def paper_by_words(case, thing):
    """Whether a list of lists of marks is a paper."""
    if len(thing) != case[2] + 1 or thing[-1]:
        return False
    if not set(marks_by_walking(case[:2] + (0, case[3]))[0]) <= set(thing[0]):
        return False
    return all(behind in thing[moment] for moment in range(1, len(thing))
               for mark in thing[moment - 1] for behind in marks_behind_one(case, moment, mark))


def random_telling(source, places, persons, last):
    word = source.choice(WORDS if persons > 1 else WORDS[:3])
    first = source.randint(0, last)
    end = source.choice((first, last, source.randint(first, last)))
    if word in ("met", "apart"):
        who, what = source.sample(range(persons), 2)
        return (word, who, what, first, end)
    return (word, source.randrange(persons), source.randrange(places), first, end)


def random_case(source, persons=None, tellings=None, greatest_last=3):
    """A small case: up to three places, two persons, four moments, with tellings of each word."""
    places = source.choice((1, 2, 2, 3, 3, 3))
    ways = tuple(pair + (source.choice((1, 1, 1, 2, 2, 3, 4)),)
                 for pair in itertools.combinations(range(places), 2) if source.random() < 0.8)
    persons = persons or source.choice((1, 2, 2))
    last = source.choice((0, 1, 2, greatest_last, greatest_last))
    number = source.randint(0, 6) if tellings is None else tellings
    made = [random_telling(source, places, persons, last) for count in range(number)]
    return ((places, ways), persons, last, tuple(made))


def random_cases(seed, number, **bounds):
    """The same cases at each run, since the seed is told."""
    source = random.Random(seed)
    return [random_case(source, **bounds) for count in range(number)]


# Cases at the edges that the document names, small enough to go through all of their worlds.
EDGE_CASES = (
    ((1, ()), 1, 0, ()),
    ((1, ()), 1, 0, (("never", 0, 0, 0, 0),)),
    ((1, ()), 3, 3, (("met", 0, 2, 0, 3),)),
    ((1, ()), 3, 3, (("apart", 0, 2, 3, 3),)),
    ((3, ()), 2, 3, (("seen", 0, 1, 0, 3), ("met", 1, 0, 2, 2))),
    ((3, ()), 2, 3, (("seen", 0, 1, 0, 3), ("seen", 0, 2, 0, 3))),
    ((2, ((0, 1, 4),)), 2, 3, (("there", 0, 0, 0, 0), ("seen", 0, 1, 1, 3))),
    ((2, ((0, 1, 4),)), 2, 3, (("never", 0, 0, 1, 3), ("never", 0, 1, 1, 3), ("met", 0, 1, 0, 0))),
    ((2, ((0, 1, 2),)), 2, 3, (("never", 0, 0, 1, 1), ("never", 0, 1, 1, 1), ("apart", 0, 1, 0, 0))),
    ((2, ((0, 1, 1),)), 2, 0, (("met", 0, 1, 0, 0), ("apart", 1, 0, 0, 0))),
    ((2, ((0, 1, 1),)), 1, 3, (("seen", 0, 0, 0, 3),) * 2 + (("never", 0, 0, 0, 3),) * 2),
    ((2, ((0, 1, 1),)), 3, 2, (("met", 0, 1, 0, 2), ("met", 1, 2, 0, 2), ("apart", 0, 2, 0, 2))),
    ((2, ((0, 1, 1),)), 3, 2, (("met", 0, 1, 1, 1), ("met", 1, 2, 1, 1), ("apart", 0, 2, 1, 1))),
    ((3, ((0, 1, 1), (0, 2, 3), (1, 2, 2))), 2, 3, (
        ("there", 0, 2, 3, 3), ("seen", 0, 0, 0, 1), ("never", 0, 0, 1, 3),
        ("seen", 1, 1, 2, 3), ("met", 0, 1, 3, 3), ("apart", 0, 1, 0, 2))),
    ((3, ((0, 1, 1), (0, 2, 3), (1, 2, 2))), 2, 3, (
        ("there", 0, 2, 2, 3), ("seen", 0, 0, 0, 1), ("seen", 0, 1, 0, 3),
        ("seen", 1, 1, 2, 3), ("met", 0, 1, 3, 3), ("apart", 0, 1, 0, 2))),
)
