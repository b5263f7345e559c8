"""Towns, cases and tellings: what is one, the opposite of a telling, a case with other tellings."""

from daytellings.errors import NoCase, NoPlace, NoTelling

MOST_PLACES = 5
LONGEST_WAY = 4
MOST_PERSONS = 3
GREATEST_LAST = 9
MOST_TELLINGS = 6

PLACE_WORDS = ("there", "seen", "never")
PERSON_WORDS = ("met", "apart")
OPPOSITES = {"seen": "never", "never": "seen", "met": "apart", "apart": "met"}


def is_whole(thing):
    # Python holds True and False for ints, and equal to 1 and 0; here they are no numbers.
    return isinstance(thing, int) and not isinstance(thing, bool)


def is_whole_within(thing, least, most):
    return is_whole(thing) and least <= thing <= most


def is_tuple_of(thing, length):
    return isinstance(thing, tuple) and len(thing) == length


def is_way(places, thing):
    return (
        is_tuple_of(thing, 3)
        and is_whole_within(thing[0], 0, places - 1)
        and is_whole_within(thing[1], thing[0] + 1, places - 1)
        and is_whole_within(thing[2], 1, LONGEST_WAY)
    )


def are_ways(places, thing):
    if not isinstance(thing, tuple) or not all([is_way(places, way) for way in thing]):
        return False
    # Rising ends, with none twice, are rising ways of which no two lie between the same places.
    ends = [way[:2] for way in thing]
    return ends == sorted(set(ends))


def is_town(thing):
    return is_tuple_of(thing, 2) and is_whole_within(thing[0], 1, MOST_PLACES) and are_ways(thing[0], thing[1])


def is_what(frame, word, who, what):
    if word in PERSON_WORDS:
        return is_whole_within(what, 0, frame[1] - 1) and what != who
    return word in PLACE_WORDS and is_whole_within(what, 0, frame[0][0] - 1)


# A frame is a tuple that begins as a case does: a case is asked for its tellings before it is known to be one.
def fits_frame(frame, thing):
    return (
        is_tuple_of(thing, 5)
        and is_whole_within(thing[1], 0, frame[1] - 1)
        and is_what(frame, thing[0], thing[1], thing[2])
        and is_whole_within(thing[3], 0, frame[2])
        and is_whole_within(thing[4], thing[3], frame[2])
    )


def are_tellings(frame, thing):
    return (
        isinstance(thing, tuple)
        and len(thing) <= MOST_TELLINGS
        and all([fits_frame(frame, telling) for telling in thing])
    )


def is_case(thing):
    return (
        is_tuple_of(thing, 4)
        and is_town(thing[0])
        and is_whole_within(thing[1], 1, MOST_PERSONS)
        and is_whole_within(thing[2], 0, GREATEST_LAST)
        and are_tellings(thing, thing[3])
    )


def demand_case(thing):
    if not is_case(thing):
        raise NoCase("this is no case")


def is_telling(case, thing):
    demand_case(case)
    return fits_frame(case, thing)


def demand_telling(case, thing):
    if not fits_frame(case, thing):
        raise NoTelling("this is no telling of the case")


def demand_number(case, thing):
    if not is_whole_within(thing, 0, len(case[3]) - 1):
        raise NoTelling("the case has no telling of this number")


def demand_person(case, thing):
    if not is_whole_within(thing, 0, case[1] - 1):
        raise NoPlace("the case does not have this person")


def demand_place(case, thing):
    if not is_whole_within(thing, 0, case[0][0] - 1):
        raise NoPlace("the case does not have this place")


def demand_moment(case, thing):
    if not is_whole_within(thing, 0, case[2]):
        raise NoPlace("the case does not have this moment")


def opposite(telling):
    if telling[0] not in OPPOSITES:
        return None
    return (OPPOSITES[telling[0]],) + telling[1:]


def with_tellings(case, tellings):
    return (case[0], case[1], case[2], tuple(tellings))


def without(case, number):
    return with_tellings(case, case[3][:number] + case[3][number + 1:])
