"""How far places are, stands and their steps, days and worlds."""

from daytellings.cases import demand_case, is_tuple_of, is_whole, is_whole_within
from daytellings.errors import NoCase


def lesser(known, ahead, takes):
    if ahead is None:
        return known
    if known is None:
        return ahead + takes
    return min(known, ahead + takes)


def fewest_from(town, start):
    fewest = [None] * town[0]
    fewest[start] = 0
    # A shortest walk comes to no place twice: a round for each place is enough for the longest of them.
    for round_number in range(town[0]):
        for one, other, takes in town[1]:
            fewest[other] = lesser(fewest[other], fewest[one], takes)
            fewest[one] = lesser(fewest[one], fewest[other], takes)
    return tuple(fewest)


def far(town):
    return tuple([fewest_from(town, start) for start in range(town[0])])


def steps(town, stand):
    place = stand[0]
    left = stand[1]
    if left > 0:
        return [(place, left - 1)]
    onward = [(other, takes - 1) for one, other, takes in town[1] if one == place]
    backward = [(one, takes - 1) for one, other, takes in town[1] if other == place]
    return sorted([(place, 0)] + onward + backward)


# The parts are asked for their kind, since True and False are equal to the numbers of a step.
def is_pair(thing):
    return is_tuple_of(thing, 2) and is_whole(thing[0]) and is_whole(thing[1])


def begins_day(town, stand):
    return is_whole_within(stand[0], 0, town[0] - 1) and stand[1] == 0


def fits_day(case, thing):
    if not is_tuple_of(thing, case[2] + 1) or not all([is_pair(stand) for stand in thing]):
        return False
    town = case[0]
    followed = [stand in steps(town, ahead) for ahead, stand in zip(thing, thing[1:])]
    return begins_day(town, thing[0]) and all(followed)


def is_day(case, thing):
    demand_case(case)
    return fits_day(case, thing)


def fits_world(case, thing):
    return is_tuple_of(thing, case[1]) and all([fits_day(case, day) for day in thing])


def is_world(case, thing):
    demand_case(case)
    return fits_world(case, thing)


def demand_world(case, thing):
    if not fits_world(case, thing):
        raise NoCase("this is no world of the case")


def place_of(stand):
    return stand[0] if stand[1] == 0 else None


def places_at(world, moment):
    return tuple([place_of(day[moment]) for day in world])
