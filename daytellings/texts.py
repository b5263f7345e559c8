"""Cases as texts: the writing of a case, and the case of a writing."""

from daytellings.cases import PERSON_WORDS, demand_case, is_case
from daytellings.errors import NoText

PLACE_SIGNS = "abcde"
PERSON_SIGNS = "XYZ"
DIGITS = "0123456789"


def way_text(way):
    return " ".join(["way", PLACE_SIGNS[way[0]] + PLACE_SIGNS[way[1]], DIGITS[way[2]]])


def moments_text(first, end):
    return "-".join([DIGITS[first], DIGITS[end]])


def what_signs(word):
    return PERSON_SIGNS if word in PERSON_WORDS else PLACE_SIGNS


def telling_text(telling):
    what = what_signs(telling[0])[telling[2]]
    return " ".join([PERSON_SIGNS[telling[1]], telling[0], what, moments_text(telling[3], telling[4])])


def case_text(case):
    demand_case(case)
    town = " ".join(["town", PLACE_SIGNS[:case[0][0]]])
    ways = [way_text(way) for way in case[0][1]]
    day = " ".join(["day", PERSON_SIGNS[:case[1]], moments_text(0, case[2])])
    tellings = [telling_text(telling) for telling in case[3]]
    return "".join([f"{line}\n" for line in [town] + ways + [day] + tellings])


def way_of(words):
    return (PLACE_SIGNS.find(words[1][:1]), PLACE_SIGNS.find(words[1][1:]), DIGITS.find(words[2]))


def telling_of(words):
    what = what_signs(words[1]).find(words[2])
    return (words[1], PERSON_SIGNS.find(words[0]), what, DIGITS.find(words[3][:1]), DIGITS.find(words[3][-1:]))


def likely_case(text):
    """The only thing of which this text can be the writing; it may be no case, or have another writing."""
    lines = [line.split(" ") for line in text.split("\n")]
    towns = [words for words in lines if len(words) == 2]
    days = [words for words in lines if len(words) == 3 and words[0] == "day"]
    if len(towns) == 0 or len(days) == 0:
        return None
    ways = [way_of(words) for words in lines if len(words) == 3 and words[0] == "way"]
    tellings = [telling_of(words) for words in lines if len(words) == 4]
    town = (len(towns[0][1]), tuple(ways))
    return (town, len(days[0][1]), DIGITS.find(days[0][2][-1:]), tuple(tellings))


def read_case(text):
    case = likely_case(text) if isinstance(text, str) else None
    # Whatever is amiss with the text, the case it seems to tell is then none, or is written otherwise.
    if not is_case(case) or case_text(case) != text:
        raise NoText("this is not the writing of a case")
    return case
