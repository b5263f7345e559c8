"""Persons whose tellings are true, or can be; a telling is that of its who."""

from daytellings.cases import demand_case, with_tellings
from daytellings.clashes import first_of_longest, is_rising_list, rising_lists
from daytellings.days import demand_world
from daytellings.errors import NoPlace
from daytellings.holding import holds
from daytellings.marks import count_worlds


def truthful(case, world):
    demand_case(case)
    demand_world(case, world)
    wrong = [telling[1] for telling in case[3] if not holds(world, telling)]
    return [person for person in range(case[1]) if person not in wrong]


def can_trust(case, group):
    told = with_tellings(case, [telling for telling in case[3] if telling[1] in group])
    return count_worlds(told) > 0


def can_be_truthful(case, group):
    demand_case(case)
    if not is_rising_list(group, case[1]):
        raise NoPlace("this is no rising list of persons of the case")
    return can_trust(case, group)


def most_truthful(case):
    demand_case(case)
    return first_of_longest([group for group in rising_lists(case[1]) if can_trust(case, group)])


def never_truthful(case):
    demand_case(case)
    return [person for person in range(case[1]) if not can_trust(case, [person])]
