"""When and where persons can meet, whether they must, and when and how long a person is at a place."""

from daytellings.cases import demand_case, demand_person, demand_place
from daytellings.days import place_of
from daytellings.errors import NoPlace
from daytellings.marks import notes_of, tied_to, truths_of
from daytellings.surely import count_with


def demand_two_persons(case, one, other):
    demand_case(case)
    demand_person(case, one)
    demand_person(case, other)
    if one == other:
        raise NoPlace("these are the same person twice")


def demand_person_and_place(case, who, place):
    demand_case(case)
    demand_person(case, who)
    demand_place(case, place)


def bits_of_sights(case):
    """A bit for each moment and place; the least bit is left to those of whom nothing is noted."""
    bits = {}
    bit = 2
    for moment in range(case[2] + 1):
        for place in range(case[0][0]):
            bits[(moment, place)] = bit
            bit = bit * 2
    return bits


def place_together(stands):
    """The place at which all of these stands are, None where there is no such."""
    return place_of(stands[0]) if stands == stands[:1] * len(stands) else None


def sights(case, persons):
    """A rising list of tuples (moment, place): when and where all these persons are at one place in some world."""
    group = tied_to(case, persons)
    numbers = [group.index(person) for person in persons]
    bits = bits_of_sights(case)

    def noting(moment, stands, notes):
        place = place_together([stands[number] for number in numbers])
        bit = bits.get((moment, place), 0)
        return dict([(done, note | bit) for done, note in notes.items()])

    noted = notes_of(case, group, noting)
    return [sight for sight, bit in bits.items() if noted & bit > 0]


def can_meet(case, one, other):
    demand_two_persons(case, one, other)
    return sights(case, [one, other])


def must_meet(case, one, other):
    demand_two_persons(case, one, other)
    return count_with(case, ("apart", one, other, 0, case[2])) == 0


def moments_at(case, who, place):
    demand_person_and_place(case, who, place)
    return [moment for moment, at in sights(case, [who]) if at == place]


def earliest(case, who, place):
    return min(moments_at(case, who, place), default=None)


def latest(case, who, place):
    return max(moments_at(case, who, place), default=None)


def stays(case, who, place):
    demand_person_and_place(case, who, place)
    group = tied_to(case, [who])
    number = group.index(who)

    # The least bit stands for no moment at the place, the next one for one moment, and so on.
    def noting(moment, stands, notes):
        times = 2 if stands[number] == (place, 0) else 1
        return dict([(done, note * times) for done, note in notes.items()])

    noted = truths_of(notes_of(case, group, noting), case[2] + 2)
    counts = [count for count, found in enumerate(noted) if found]
    return (counts[0], counts[-1]) if len(counts) > 0 else None
