"""[11.1], and what [0.3] says of it: days and worlds as texts, and which texts are none of them."""

import itertools
import random
import unittest

from daytellings.daytexts import day_text, read_day, read_world, world_text
from daytellings.errors import NoCase, NoText
from things import (CASE, EDGE_CASES, NEVER_RIGHT, TOWN, days_by_choosing, random_cases, refusing, spoilt,
                    whatever_worlds, with_other_lengths)

PAIR = (2, ((0, 1, 1),))
FAR_PAIR = (2, ((0, 1, 4),))
LINE = (3, ((0, 1, 1), (1, 2, 2)))
FIVE = (5, ((0, 4, 2), (1, 2, 3), (3, 4, 1)))
DAY = ((0, 0), (2, 2), (2, 1), (2, 0), (1, 1), (1, 0), (1, 0))
WORLD = (DAY, ((1, 0),) * 7)
TEXT = "X aCCcBbb\nY bbbbbbb\n"
SMALL_CASES = list(EDGE_CASES) + random_cases(121, 40) + random_cases(122, 10, persons=3, greatest_last=2)
NO_TEXTS = [thing for thing in NEVER_RIGHT if not isinstance(thing, str)] + [0, ["a"], ("a",), list(TEXT)]


def written(day):
    """The writing of a day, by other code than the program's own."""
    return "".join(chr((65 if left else 97) + place) for place, left in day)


def written_world(world):
    return "".join(f"{letter} {written(day)}\n" for letter, day in zip("XYZ", world))


def days_of(case):
    return {written(day): day for day in days_by_choosing(case[0], case[2])}


class Days(unittest.TestCase):
    def test_all_days_of_small_cases(self):
        for case in SMALL_CASES:
            days = days_by_choosing(case[0], case[2])
            self.assertEqual(len({written(day) for day in days}), len(days))
            for day in days:
                self.assertEqual(day_text(case, day), written(day), (case, day))
                self.assertEqual(read_day(case, written(day)), day, (case, day))
                self.assertEqual(repr(read_day(case, written(day))), repr(day))

    def test_all_texts_of_some_signs(self):
        cases = [(town, 1, last, ()) for town in ((1, ()), (2, ()), PAIR, FAR_PAIR, (2, ((0, 1, 2),)), LINE, TOWN)
                 for last in (0, 1, 2)] + [(town, 1, 4, ()) for town in (PAIR, FAR_PAIR, (2, ((0, 1, 3),)))]
        for case in cases:
            days = days_of(case)
            signs = "abcABC" if case[2] < 4 else "abAB"
            for length in range(case[2] + 3):
                for chosen in itertools.product(signs, repeat=length):
                    text = "".join(chosen)
                    if text in days:
                        self.assertEqual(read_day(case, text), days[text], (case, text))
                    else:
                        refusing(self, NoText, read_day, case, text)

    def test_by_hand(self):
        self.assertEqual(day_text(CASE, DAY), "aCCcBbb")
        self.assertEqual(read_day(CASE, "aCCcBbb"), DAY)
        case = (FIVE, 1, 9, ())
        day = ((0, 0), (4, 1), (4, 0), (3, 0), (3, 0), (4, 0), (0, 1), (0, 0), (0, 0), (4, 1))
        self.assertEqual(day_text(case, day), "aEeddeAaaE")
        self.assertEqual(read_day(case, "aEeddeAaaE"), day)

    def test_on_the_way_at_the_last_moment(self):
        for last in (1, 2, 3):
            case = (FAR_PAIR, 1, last, ())
            day = ((0, 0), (1, 3), (1, 2), (1, 1))[:last + 1]
            self.assertEqual(day_text(case, day), "a" + "B" * last)
            self.assertEqual(read_day(case, "a" + "B" * last), day)

    def test_one_moment(self):
        case = ((1, ()), 1, 0, ())
        self.assertEqual(day_text(case, ((0, 0),)), "a")
        self.assertEqual(read_day(case, "a"), ((0, 0),))
        for text in ("", "A", "b", "aa", " ", "a ", "a\n"):
            refusing(self, NoText, read_day, case, text)

    def test_refused_texts(self):
        wrong = (
            "", "aCCcBb", "aCCcBbbb", "aCCcBbb\n", " aCCcBbb", "aCCcBbb ", "X aCCcBbb", "aCCcBbd", "aaaaaad",
            "aaaaaaD", "aaaaaaA", "aaaaaaB", "abbbbbB", "aCcccccc", "aCcbbbb", "aCCCcbb", "aCCCCCC", "accccc",
            "acccccc", "aCCbbbb", "aCCaaaa", "aCBbbbb", "ACCcBbb", "CCcBbbb", "Ccccccc", "aCCcbbb", "aCCcBBb",
            "zzzzzzz", "0000000", "       ", "aaaa\naaa", "aaaaaa", "aaaaaaaa", "AAAAAAA", "XXXXXXX",
        )
        for text in wrong:
            with self.subTest(text=text):
                refusing(self, NoText, read_day, CASE, text)

    def test_ways_gone_too_fast_and_too_slow(self):
        case = (FAR_PAIR, 1, 6, ())
        self.assertEqual(read_day(case, "aBBBbbb")[4], (1, 0))
        for text in ("abbbbbb", "aBbbbbb", "aBBbbbb", "aBBBBbb", "aBBBBBb", "aBBBBBB", "aBBAaaa", "aBBBaaa", "aBBBAAA"):
            refusing(self, NoText, read_day, case, text)

    def test_no_day(self):
        wrong = list(NEVER_RIGHT) + spoilt(DAY) + with_other_lengths(DAY)
        wrong += [(), DAY[:6], DAY + DAY[6:], list(DAY), WORLD, "aCCcBbb", ((2, 1),) + DAY[1:], DAY[:5] + ((2, 0),) * 2]
        for thing in wrong:
            with self.subTest(thing=thing):
                refusing(self, NoCase, day_text, CASE, thing)

    def test_whatever_the_tellings(self):
        never = (PAIR, 1, 1, (("never", 0, 0, 0, 1), ("seen", 0, 0, 0, 1)))
        self.assertEqual(day_text(never, ((0, 0), (1, 0))), "ab")
        self.assertEqual(read_day(never, "ba"), ((1, 0), (0, 0)))
        self.assertEqual(read_world(never, "X aa\n"), (((0, 0), (0, 0)),))
        self.assertEqual(world_text(never, (((0, 0), (0, 0)),)), "X aa\n")


class Worlds(unittest.TestCase):
    def test_worlds_of_small_cases(self):
        source = random.Random(123)
        for case in SMALL_CASES:
            worlds = whatever_worlds(*case[:3])
            for world in source.sample(worlds, min(40, len(worlds))):
                self.assertEqual(world_text(case, world), written_world(world), (case, world))
                self.assertEqual(read_world(case, written_world(world)), world, (case, world))
                self.assertEqual(repr(read_world(case, written_world(world))), repr(world))

    def test_by_hand(self):
        self.assertEqual(world_text(CASE, WORLD), TEXT)
        self.assertEqual(read_world(CASE, TEXT), WORLD)
        case = ((1, ()), 3, 1, ())
        self.assertEqual(world_text(case, (((0, 0), (0, 0)),) * 3), "X aa\nY aa\nZ aa\n")

    def test_refused_texts(self):
        one, other = TEXT.splitlines(keepends=True)
        wrong = (
            "", "\n", "\n\n", one, other, one + other + "Z aaaaaaa\n", one + one, other + other, other + one,
            one + other + other, one + other + "\n", "\n" + TEXT, one + "\n" + other, TEXT[:-1], TEXT + " ",
            TEXT.replace("X", "x"), TEXT.replace("Y", "Z"), TEXT.replace("X", ""), TEXT.replace(" ", ""),
            TEXT.replace(" ", "  "), TEXT.replace(" ", "\t"), TEXT.replace("\n", "\r\n"), TEXT.replace("\n", " "),
            TEXT.replace("\n", ""), " " + TEXT, TEXT.replace("bbb\n", "bb\n"), TEXT.replace("bb\n", "bbb\n"),
            TEXT.replace("CC", "C"), TEXT.replace("CC", "CCC"), "aCCcBbb\nbbbbbbb\n", "X:aCCcBbb\nY:bbbbbbb\n",
            "X aCCcBbb\nY ddddddd\n", "X aCCcBbb\nY \n", "X aCCcBbb\nY\n", "X aCCcBbb\nY BBBBBBB\n", one * 3,
        )
        for text in wrong:
            with self.subTest(text=text):
                refusing(self, NoText, read_world, CASE, text)

    def test_a_sign_more_or_less_or_another(self):
        case = (LINE, 2, 2, ())
        texts = {written_world(world): world for world in whatever_worlds(*case[:3])}
        for text in ("X aab\nY cBb\n", "X bCc\nY baa\n"):
            for place in range(len(text) + 1):
                others = [text[:place] + text[place + 1:]]
                for sign in "abcdABCXYZ \nx0":
                    others += [text[:place] + sign + text[place:], text[:place] + sign + text[place + 1:]]
                for other in others:
                    if other in texts:
                        self.assertEqual(read_world(case, other), texts[other], other)
                    else:
                        refusing(self, NoText, read_world, case, other)

    def test_persons_more_or_less_than_the_case_has(self):
        for persons in (1, 2, 3):
            case = (PAIR, persons, 1, ())
            for number in range(5):
                text = "".join(f"{letter} ab\n" for letter in "XYZW"[:number])
                if number == persons:
                    self.assertEqual(read_world(case, text), (((0, 0), (1, 0)),) * persons)
                else:
                    refusing(self, NoText, read_world, case, text)

    def test_no_world(self):
        wrong = list(NEVER_RIGHT) + spoilt(WORLD) + with_other_lengths(WORLD)
        wrong += [(), WORLD[:1], WORLD + (DAY,), list(WORLD), DAY, TEXT, (DAY, DAY[:6])]
        for thing in wrong:
            with self.subTest(thing=thing):
                refusing(self, NoCase, world_text, CASE, thing)


class Refusals(unittest.TestCase):
    def test_no_case_comes_ahead_of_no_text(self):
        for wrong in list(NEVER_RIGHT) + [list(CASE), CASE[:3], (TOWN, 4, 6, ()), (TOWN, 2, 10, ())] + spoilt(CASE):
            for text in ("", "aCCcBbb", TEXT, "x"):
                refusing(self, NoCase, read_day, wrong, text)
                refusing(self, NoCase, read_world, wrong, text)

    def test_what_is_no_text_at_all(self):
        for thing in NO_TEXTS:
            refusing(self, NoText, read_day, CASE, thing)
            refusing(self, NoText, read_world, CASE, thing)
            refusing(self, NoCase, read_day, None, thing)
            refusing(self, NoCase, read_world, None, thing)
        refusing(self, NoText, read_day, ((1, ()), 1, 0, ()), ["a"])
        refusing(self, NoText, read_day, ((1, ()), 1, 0, ()), ("a",))


if __name__ == "__main__":
    unittest.main()
