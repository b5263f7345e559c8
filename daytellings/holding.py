"""Which tellings are true of a world."""

from daytellings.cases import PERSON_WORDS, demand_case, demand_telling
from daytellings.days import demand_world

# A telling of these words needs one moment at which it is so, one of the others is lost by one moment.
ONCE_WORDS = ("seen", "met")


def is_so(telling, stands):
    """Whether what a telling speaks of is so, where all persons stand at one moment."""
    stand = stands[telling[1]]
    if telling[0] in PERSON_WORDS:
        # Two on the same way, equally far, have the same stand, but are at no place.
        return stand[1] == 0 and stand == stands[telling[2]]
    return stand == (telling[2], 0)


def stands_at(world, moment):
    return tuple([day[moment] for day in world])


def holds(world, telling):
    so = [is_so(telling, stands_at(world, moment)) for moment in range(telling[3], telling[4] + 1)]
    if telling[0] == "there":
        return all(so)
    return any(so) == (telling[0] in ONCE_WORDS)


def numbers_that_hold(case, world):
    return [number for number, telling in enumerate(case[3]) if holds(world, telling)]


def is_true(case, world, telling):
    demand_case(case)
    demand_telling(case, telling)
    demand_world(case, world)
    return holds(world, telling)


def true_ones(case, world):
    demand_case(case)
    demand_world(case, world)
    return numbers_that_hold(case, world)


def all_true(case, world):
    return len(true_ones(case, world)) == len(case[3])
