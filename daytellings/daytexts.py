"""Days and worlds as texts: their writing, and the days and worlds of a writing."""

from daytellings.cases import demand_case
from daytellings.days import demand_world, fits_day, steps
from daytellings.errors import NoCase, NoText
from daytellings.texts import PERSON_SIGNS, PLACE_SIGNS


def sign_of(stand):
    sign = PLACE_SIGNS[stand[0]]
    return sign if stand[1] == 0 else sign.upper()


def signs_of(day):
    return "".join([sign_of(stand) for stand in day])


def day_text(case, day):
    demand_case(case)
    if not fits_day(case, day):
        raise NoCase("this is no day of the case")
    return signs_of(day)


def day_of(case, signs):
    """The day of which these signs are the writing, None where there is none."""
    ahead = [(place, 0) for place in range(case[0][0])]
    day = []
    for sign in signs:
        fitting = [stand for stand in ahead if sign_of(stand) == sign]
        if len(fitting) == 0:
            return None
        # There is one at the most: no two ways lead from a place to the same one, and none to itself.
        day.append(fitting[0])
        ahead = steps(case[0], fitting[0])
    return tuple(day) if len(day) == case[2] + 1 else None


def read_day(case, text):
    demand_case(case)
    day = day_of(case, text) if isinstance(text, str) else None
    if day is None:
        raise NoText("this is not the writing of a day of the case")
    return day


def line_of(sign, day):
    signs = signs_of(day)
    return f"{sign} {signs}\n"


def lines_of(world):
    return "".join([line_of(sign, day) for sign, day in zip(PERSON_SIGNS, world)])


def world_text(case, world):
    demand_case(case)
    demand_world(case, world)
    return lines_of(world)


def likely_world(case, text):
    """The only world of which this text can be the writing, None where there is none; it may have another writing."""
    lines = text.split("\n")
    days = [day_of(case, line[2:]) for line in lines[:case[1]]]
    return tuple(days) if len(days) == case[1] and None not in days else None


def read_world(case, text):
    demand_case(case)
    world = likely_world(case, text) if isinstance(text, str) else None
    if world is None or lines_of(world) != text:
        raise NoText("this is not the writing of a world of the case")
    return world
