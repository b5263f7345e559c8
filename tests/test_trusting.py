"""[10.1], and what [0.3] says of it: persons whose tellings are true, and who can be trusted together."""

import itertools
import random
import unittest

from daytellings.errors import NoCase, NoPlace
from daytellings.trusting import can_be_truthful, most_truthful, never_truthful, truthful
from things import (CASE, EDGE_CASES, NEVER_RIGHT, TELLINGS, random_cases, refusing, spoilt, told_anew, told_true,
                    true_worlds, whatever_worlds, with_other_lengths)

PAIR = (2, ((0, 1, 1),))
STAYING = ((2, 0),) * 7
WORLD = (STAYING, ((1, 0),) * 7)
NO_WORLD = (PAIR, 2, 3, (("seen", 0, 0, 1, 2), ("never", 0, 0, 0, 3)))
AT_ODDS = (PAIR, 3, 3, (("met", 0, 1, 2, 2), ("apart", 1, 0, 2, 3), ("apart", 2, 0, 0, 3), ("met", 2, 1, 2, 2)))
ALL_LIARS = (PAIR, 3, 1, (("seen", 0, 0, 0, 1), ("never", 0, 0, 0, 1), ("met", 1, 0, 0, 1), ("apart", 1, 0, 0, 1),
                          ("there", 2, 0, 0, 0), ("there", 2, 1, 0, 0)))
SMALL_CASES = (list(EDGE_CASES) + [NO_WORLD, AT_ODDS, ALL_LIARS] + random_cases(111, 150)
               + random_cases(112, 60, persons=3, greatest_last=2))


def groups(persons):
    """All rising lists of persons, as lists rise within one length."""
    return [list(group) for length in range(persons + 1) for group in itertools.combinations(range(persons), length)]


def with_tellings_of(case, group):
    return case[:3] + (tuple(telling for telling in case[3] if telling[1] in group),)


def trusted(case, group):
    return bool(true_worlds(with_tellings_of(case, group)))


class Truthful(unittest.TestCase):
    def test_worlds_whatever_the_tellings(self):
        source = random.Random(113)
        for case in SMALL_CASES:
            worlds = whatever_worlds(*case[:3])
            for world in source.sample(worlds, min(15, len(worlds))):
                expected = [person for person in range(case[1])
                            if all(told_true(world, telling) for telling in case[3] if telling[1] == person)]
                self.assertEqual(truthful(case, world), expected, (case, world))

    def test_by_hand(self):
        self.assertEqual(truthful(CASE, WORLD), [1])
        self.assertEqual(truthful(CASE[:3] + (TELLINGS[:3],), WORLD), [0, 1])
        self.assertEqual(truthful(CASE[:3] + ((("met", 0, 1, 0, 6), ("met", 1, 0, 0, 6)),), WORLD), [])

    def test_persons_without_tellings(self):
        self.assertEqual(truthful(CASE[:3] + ((),), WORLD), [0, 1])
        self.assertEqual(truthful(CASE[:3] + ((("met", 0, 1, 0, 6),),), WORLD), [1])

    def test_what_is_no_world(self):
        wrong = list(NEVER_RIGHT) + spoilt(WORLD) + with_other_lengths(WORLD)
        wrong += [(), (STAYING,), WORLD + (STAYING,), list(WORLD), CASE, (STAYING, ((0, 1),) + STAYING[1:])]
        for thing in wrong:
            with self.subTest(thing=thing):
                refusing(self, NoCase, truthful, CASE, thing)

    def test_new_lists(self):
        told_anew(self, truthful, CASE, WORLD)


class Groups(unittest.TestCase):
    def test_small_cases(self):
        for case in SMALL_CASES:
            fitting = [group for group in groups(case[1]) if trusted(case, group)]
            for group in groups(case[1]):
                self.assertIs(can_be_truthful(case, group), group in fitting, (case, group))
            most = max(len(group) for group in fitting)
            best = [group for group in fitting if len(group) == most][0]
            self.assertEqual(most_truthful(case), best, case)
            never = [person for person in range(case[1]) if [person] not in fitting]
            self.assertEqual(never_truthful(case), never, case)

    def test_by_hand(self):
        self.assertIs(can_be_truthful(AT_ODDS, [0, 1, 2]), False)
        self.assertIs(can_be_truthful(AT_ODDS, [0, 1]), False)
        self.assertIs(can_be_truthful(AT_ODDS, [0, 2]), False)
        self.assertIs(can_be_truthful(AT_ODDS, [1, 2]), True)
        self.assertEqual(most_truthful(AT_ODDS), [1, 2])
        self.assertEqual(never_truthful(AT_ODDS), [])

    def test_of_those_with_the_most_the_first(self):
        case = (PAIR, 3, 3, (("met", 0, 1, 0, 3), ("apart", 1, 0, 0, 3), ("seen", 2, 0, 0, 3)))
        self.assertEqual(most_truthful(case), [0, 2])
        case = (PAIR, 2, 3, (("met", 0, 1, 0, 3), ("apart", 1, 0, 0, 3)))
        self.assertEqual(most_truthful(case), [0])

    def test_the_group_of_no_person(self):
        for case in SMALL_CASES:
            self.assertIs(can_be_truthful(case, []), True)

    def test_own_tellings_that_can_not_be_true(self):
        self.assertEqual(never_truthful(ALL_LIARS), [0, 1, 2])
        self.assertEqual(most_truthful(ALL_LIARS), [])
        self.assertEqual(never_truthful(NO_WORLD), [0])
        self.assertEqual(most_truthful(NO_WORLD), [1])
        self.assertIs(can_be_truthful(NO_WORLD, [0]), False)
        self.assertIs(can_be_truthful(NO_WORLD, [1]), True)
        self.assertIs(can_be_truthful(NO_WORLD, [0, 1]), False)

    def test_without_tellings(self):
        case = (PAIR, 3, 3, ())
        self.assertEqual(most_truthful(case), [0, 1, 2])
        self.assertEqual(never_truthful(case), [])
        self.assertIs(can_be_truthful(case, [0, 1, 2]), True)

    def test_what_is_no_group(self):
        wrong = [thing for thing in NEVER_RIGHT if thing not in ([], [0])]
        wrong += [(), (0,), (0, 1), 0, 1, "01", [2], [0, 2], [0, 1, 2], [1, 0], [0, 0], [1, 1], [0, 1, 1], [-1],
                  [-1, 0], [True], [False], [0, True], [False, 1], [None], ["0"], [[0]], [(0,)], [0, [1]], ["0", 1],
                  [None, 0]]
        for thing in wrong:
            with self.subTest(thing=thing):
                refusing(self, NoPlace, can_be_truthful, CASE, thing)
                refusing(self, NoPlace, can_be_truthful, NO_WORLD, thing)
        refusing(self, NoPlace, can_be_truthful, (PAIR, 1, 3, ()), [0, 1])

    def test_no_case_comes_first(self):
        for thing in (None, [5], [1, 0]):
            refusing(self, NoCase, can_be_truthful, list(CASE), thing)

    def test_new_lists_and_what_is_handed_in_stays(self):
        told_anew(self, most_truthful, CASE)
        told_anew(self, most_truthful, ALL_LIARS)
        told_anew(self, never_truthful, ALL_LIARS)
        told_anew(self, never_truthful, CASE)
        group = [0, 1]
        can_be_truthful(CASE, group)
        self.assertEqual(group, [0, 1])
        wrong = [1, [0]]
        refusing(self, NoPlace, can_be_truthful, CASE, wrong)
        self.assertEqual(wrong, [1, [0]])


if __name__ == "__main__":
    unittest.main()
