"""[7.1], [7.2], and what [0.3] says of them: cases as texts, and which texts are none of a case."""

import itertools
import random
import re
import unittest

from daytellings.errors import NoText
from daytellings.texts import case_text, read_case
from things import CASE, EDGE_CASES, WORDS, random_cases, random_telling, refusing

SIGNS = [chr(number) for number in range(ord(" "), ord("~") + 1)] + ["\n"]
FULL_WAYS = tuple(pair + (1 + sum(pair) % 4,) for pair in itertools.combinations(range(5), 2))

PLACE_LINE = r"[XYZ] (?:there|seen|never) [abcde] \d-\d\n"
PERSON_LINE = r"[XYZ] (?:met|apart) [XYZ] \d-\d\n"
WHOLE = re.compile(r"town (a|ab|abc|abcd|abcde)\n((?:way [abcde]{2} [1-4]\n)*)day (X|XY|XYZ) 0-(\d)\n"
                   rf"((?:{PLACE_LINE}|{PERSON_LINE}){{0,6}})", re.ASCII)

TEXT = """town abc
way ab 1
way ac 3
way bc 2
day XY 0-6
X there c 2-3
Y seen b 0-6
Y never a 1-1
X met Y 0-6
Y apart X 1-2
"""


def written(case):
    """The writing of a case, by other code than the program's own."""
    (places, ways), persons, last, tellings = case
    text = "town {}\n".format("".join(chr(97 + place) for place in range(places)))
    for one, other, takes in ways:
        text += "way {:c}{:c} {:d}\n".format(97 + one, 97 + other, takes)
    text += "day {} 0-{}\n".format("".join(chr(88 + person) for person in range(persons)), last)
    for word, who, what, first, end in tellings:
        base = 88 if word in ("met", "apart") else 97
        text += "{:c} {} {:c} {}-{}\n".format(88 + who, word, base + what, first, end)
    return text


def read_by_pattern(text):
    """The case of a text, None where it is the writing of none, by other code than the program's own."""
    found = WHOLE.fullmatch(text)
    if not found:
        return None
    places, ways, persons, last, tellings = found.groups()
    pairs = [line[4:6] for line in ways.splitlines()]
    if not all(one < other and other in places for one, other in pairs) or pairs != sorted(set(pairs)):
        return None
    read = []
    for line in tellings.splitlines():
        who, word, what, moments = line.split(" ")
        if who not in persons or what not in places + persons or what == who or not moments[0] <= moments[2] <= last:
            return None
        read.append((word, "XYZ".index(who), ("abcde" if what in places else "XYZ").index(what),
                     int(moments[0]), int(moments[2])))
    made = tuple(("abcde".index(line[4]), "abcde".index(line[5]), int(line[7])) for line in ways.splitlines())
    return ((len(places), made), len(persons), int(last), tuple(read))


def cases_to_write():
    source = random.Random(81)
    made = [CASE] + list(EDGE_CASES) + random_cases(82, 60)
    for places, persons, last in itertools.product((1, 2, 5), (1, 2, 3), (0, 1, 9)):
        for ways in ((), tuple(way for way in FULL_WAYS if way[1] < places)):
            for number in (0, 1, 6):
                tellings = tuple(random_telling(source, places, persons, last) for count in range(number))
                made.append(((places, ways), persons, last, tellings))
    for word in WORDS:
        made.append(((5, FULL_WAYS), 3, 9, tuple((word, 2 - number % 2, 0, number, 9) for number in range(6))))
        made.append(((5, ()), 3, 9, ((word, 0, 2, 0, 9), (word, 1, 2, 9, 9)) * 3))
    return made


CASES = cases_to_write()


def with_one_sign_other(text):
    """The text with a sign less, with a sign more, and with another sign, at each place."""
    found = set()
    for place in range(len(text) + 1):
        found.add(text[:place] + text[place + 1:])
        for sign in SIGNS:
            found.add(text[:place] + sign + text[place:])
            found.add(text[:place] + sign + text[place + 1:])
    return sorted(found)


def with_lines_other(text):
    """The text with each line less, each twice, and each two exchanged."""
    lines = text.splitlines(keepends=True)
    found = set()
    for number, line in enumerate(lines):
        found.add("".join(lines[:number] + lines[number + 1:]))
        found.add("".join(lines[:number] + [line] + lines[number:]))
        for other in range(number):
            changed = list(lines)
            changed[number], changed[other] = lines[other], line
            found.add("".join(changed))
    return sorted(found)


class Writing(unittest.TestCase):
    def test_by_hand(self):
        self.assertEqual(case_text(CASE), TEXT)
        self.assertEqual(case_text(((1, ()), 1, 0, ())), "town a\nday X 0-0\n")
        case = ((5, ((3, 4, 4),)), 3, 9, (("met", 2, 0, 9, 9), ("never", 1, 4, 0, 9)))
        self.assertEqual(case_text(case), "town abcde\nway de 4\nday XYZ 0-9\nZ met X 9-9\nY never e 0-9\n")

    def test_all_cases(self):
        for case in CASES:
            self.assertEqual(case_text(case), written(case), case)


class Reading(unittest.TestCase):
    def check(self, text):
        case = read_by_pattern(text)
        if case is None:
            refusing(self, NoText, read_case, text)
        else:
            self.assertEqual(read_case(text), case, text)
            self.assertEqual(repr(read_case(text)), repr(case), text)

    def test_by_hand(self):
        self.assertEqual(read_case(TEXT), CASE)
        self.assertEqual(read_case("town a\nday X 0-0\n"), ((1, ()), 1, 0, ()))

    def test_what_is_written_reads_back(self):
        for case in CASES:
            self.assertEqual(read_case(written(case)), case)
            self.assertEqual(read_by_pattern(written(case)), case)

    def test_a_sign_more_or_less_or_another(self):
        for text in (TEXT, "town a\nday X 0-0\n", "town ab\nway ab 4\nday XYZ 0-9\nZ met Y 9-9\n"):
            for other in with_one_sign_other(text):
                self.check(other)

    def test_a_line_more_or_less_or_two_exchanged(self):
        for case in CASES:
            for other in with_lines_other(written(case)):
                self.check(other)

    def test_refused_by_hand(self):
        wrong = (
            "", "\n", " ", "town", "town a", "town a\n", "day X 0-0\n", "town a\nday X 0-0", "town a\n\nday X 0-0\n",
            "town a\nday X 0-0\n\n", "\ntown a\nday X 0-0\n", " town a\nday X 0-0\n", "town a \nday X 0-0\n",
            "town  a\nday X 0-0\n", "Town a\nday X 0-0\n", "town b\nday X 0-0\n", "town ba\nday X 0-0\n",
            "town aa\nday X 0-0\n", "town \nday X 0-0\n", "town abcdef\nday X 0-0\n", "town A\nday X 0-0\n",
            "town a\nday \n", "town a\nday  0-0\n", "town a\nday Y 0-0\n", "town a\nday YX 0-0\n",
            "town a\nday XX 0-0\n", "town a\nday XYZW 0-0\n", "town a\nday x 0-0\n", "town a\nday X 1-1\n",
            "town a\nday X 0-00\n", "town a\nday X 0-10\n", "town a\nday X 0-+1\n", "town a\nday X 0--1\n",
            "town a\nday X 00-1\n", "town a\nday X 0\n", "town a\nday X 0-\n", "town a\nday X -0\n",
            "town a\nday X 0 0\n", "day X 0-0\ntown a\n", "town a\ntown a\nday X 0-0\n",
            "town a\nday X 0-0\nday X 0-0\n", "town a\nday X 0-0\nX there a\n", "town a\nday X 0-0\nX there\n",
            "town a\nday X 0-0\nX there a 0-0 0\n", "town a\nday X 0-0\nX there X 0-0\n",
        )
        for text in wrong:
            self.assertIsNone(read_by_pattern(text), text)
            refusing(self, NoText, read_case, text)

    def test_other_lines_for_one(self):
        others = {
            "way ab 1": ("way ba 1", "way aa 1", "way ad 1", "way ab 0", "way ab 5", "way ab 01", "way ab +1",
                         "way ab 10", "way a b 1", "way abc 1", "way ab", "way a 1", "way  1", "way ab ", "wayab 1",
                         "Way ab 1", "way ab 1 ", "way AB 1", "way ab one", "way ac 1", "way bc 1"),
            "day XY 0-6": ("day X 0-6", "day XYZ 0-2", "day XY 0-5", "day XY 0-06", "day XY 0-16", "day YX 0-6",
                           "day X Y 0-6", "day XY 06", "day XY 0-6-6", "day XY 6-0", "day XY 1-6"),
            "X there c 2-3": ("X there d 2-3", "Z there c 2-3", "X there c 3-2", "X there c 2-7", "X there c 02-3",
                              "X there c 2-03", "X there c +2-3", "X there c 2-10", "X there c 23", "X there c 2",
                              "X there Y 2-3", "X There c 2-3", "X was c 2-3", "x there c 2-3", "X there C 2-3",
                              "X there cc 2-3", "XX there c 2-3", "X there  2-3", " there c 2-3", "X there c ",
                              "X  c 2-3", "X there c 2-3 ", " X there c 2-3", "X\tthere c 2-3", "X there c 2--3",
                              "X there bc 2-3", "XY there c 2-3", "X there c 12-3", "X there c 2-23"),
            "X met Y 0-6": ("X met X 0-6", "X met Z 0-6", "X met a 0-6", "X met y 0-6", "X met YX 0-6",
                            "X met  0-6", "X met XY 0-6", "X met Y 6-0", "X met Y 0-9"),
        }
        for line, wrong in others.items():
            for other in wrong:
                text = TEXT.replace(line + "\n", other + "\n")
                self.assertNotEqual(text, TEXT)
                self.assertIsNone(read_by_pattern(text), text)
                refusing(self, NoText, read_case, text)

    def test_more_tellings_than_a_case_has(self):
        self.assertEqual(len(read_case(TEXT + "X seen a 0-0\n")[3]), 6)
        refusing(self, NoText, read_case, TEXT + "X seen a 0-0\n" * 2)
        refusing(self, NoText, read_case, TEXT * 2)

    def test_lines_in_another_order(self):
        lines = TEXT.splitlines(keepends=True)
        source = random.Random(83)
        for attempt in range(300):
            source.shuffle(lines)
            self.check("".join(lines))

    def test_other_ends_of_lines_and_other_signs(self):
        for text in (TEXT.replace("\n", "\r\n"), TEXT.replace("\n", "\r"), TEXT.replace(" ", "\t"),
                     TEXT.replace("0-6", "0-\u0666"), TEXT.replace("2", "\u00b2"), TEXT.replace("\n", "\x0b")):
            refusing(self, NoText, read_case, text)

    def test_texts_of_any_signs(self):
        source = random.Random(84)
        signs = "townwaydXYZabcde 0123-\nmethrsvn"
        for attempt in range(3000):
            self.check("".join(source.choice(signs) for count in range(source.randint(0, 40))))


if __name__ == "__main__":
    unittest.main()
