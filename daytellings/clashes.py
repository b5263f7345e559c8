"""Which tellings can be true together and which can't, and which persons are tied."""

from daytellings.cases import demand_case, is_whole_within, with_tellings
from daytellings.holding import true_ones
from daytellings.marks import groups_of, part_of
from daytellings.worlds import a_world


def longer_by_one(lists, count):
    longer = []
    for numbers in lists:
        least = numbers[-1] + 1 if len(numbers) > 0 else 0
        longer.extend([numbers + [number] for number in range(least, count)])
    return longer


def rising_lists(count):
    """All rising lists of numbers below this one, short ones first, then as lists rise."""
    found = []
    lists = [[]]
    while len(lists) > 0:
        found.extend(lists)
        lists = longer_by_one(lists, count)
    return found


def is_within(numbers, others):
    return all([number in others for number in numbers])


def holds_any(numbers, lists):
    return any([is_within(others, numbers) for others in lists])


def world_of(case, numbers):
    return a_world(with_tellings(case, [case[3][number] for number in numbers]))


def can_together(case, numbers):
    return world_of(case, numbers) is not None


def is_decided(numbers, clashes, true_together):
    return holds_any(numbers, clashes) or any([is_within(numbers, others) for others in true_together])


def all_clashes(case):
    if a_world(case) is not None:
        return []
    clashes = []
    true_together = []
    for numbers in rising_lists(len(case[3])):
        if not is_decided(numbers, clashes, true_together):
            world = world_of(case, numbers)
            if world is None:
                # Shorter lists came ahead, so each part of this one can be true: else it would hold a clash.
                clashes.append(numbers)
            else:
                # All that is true of this world is, so no part of it needs a world of its own.
                true_together.append(true_ones(case, world))
    return clashes


def first_of_longest(lists):
    most = max([len(numbers) for numbers in lists])
    return [numbers for numbers in lists if len(numbers) == most][0]


def most_true(case):
    clashes = all_clashes(case)
    return first_of_longest([numbers for numbers in rising_lists(len(case[3])) if not holds_any(numbers, clashes)])


def least_clash(case):
    clashes = all_clashes(case)
    return clashes[0] if len(clashes) > 0 else None


def is_rising_list(thing, count):
    """Whether any thing is a rising list of numbers below this one."""
    if not isinstance(thing, list) or not all([is_whole_within(part, 0, count - 1) for part in thing]):
        return False
    return thing == sorted(set(thing))


def is_clash(case, thing):
    demand_case(case)
    if not is_rising_list(thing, len(case[3])) or can_together(case, thing):
        return False
    return all([can_together(case, thing[:index] + thing[index + 1:]) for index in range(len(thing))])


def tied(case):
    demand_case(case)
    return groups_of(case)


def alone(case, group):
    demand_case(case)
    return part_of(case, group)
