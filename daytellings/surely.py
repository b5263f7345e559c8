"""Where each person can have been, and surely was; what another telling would be; which tellings are needless."""

from daytellings.cases import demand_case, demand_moment, demand_person, demand_telling, with_tellings, without
from daytellings.marks import count_worlds


def demand_person_and_moment(case, who, moment):
    demand_case(case)
    demand_person(case, who)
    demand_moment(case, moment)


def count_with(case, telling):
    return count_worlds(with_tellings(case, case[3] + (telling,)))


def counts_at_places(case, who, moment):
    return [count_with(case, ("there", who, place, moment, moment)) for place in range(case[0][0])]


def where(case, who, moment):
    demand_person_and_moment(case, who, moment)
    return [place for place, count in enumerate(counts_at_places(case, who, moment)) if count > 0]


def on_the_way(case, who, moment):
    demand_person_and_moment(case, who, moment)
    return sum(counts_at_places(case, who, moment)) < count_worlds(case)


def surely_at(case, who, moment):
    demand_person_and_moment(case, who, moment)
    every = count_worlds(case)
    counts = counts_at_places(case, who, moment)
    # Without any world each count is as great as theirs, but nobody is surely anywhere.
    return counts.index(every) if every > 0 and every in counts else None


def could_be(case, telling):
    demand_case(case)
    demand_telling(case, telling)
    return count_with(case, telling) > 0


def must_be(case, telling):
    demand_case(case)
    demand_telling(case, telling)
    return count_with(case, telling) == count_worlds(case)


def verdict(case, telling):
    demand_case(case)
    demand_telling(case, telling)
    every = count_worlds(case)
    some = count_with(case, telling)
    if every == 0:
        return "none"
    if some == every:
        return "true"
    return "open" if some > 0 else "false"


def needless(case):
    demand_case(case)
    every = count_worlds(case)
    return [number for number in range(len(case[3])) if count_worlds(without(case, number)) == every]
