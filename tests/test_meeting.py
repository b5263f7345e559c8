"""[8.1], and what [0.3] says of it: who can meet and must, and when and how long a person is at a place."""

import itertools
import unittest

from daytellings.errors import NoCase, NoPlace
from daytellings.meeting import can_meet, earliest, latest, must_meet, stays
from things import (CASE, EDGE_CASES, NEVER_RIGHT, random_cases, refusing, told_anew, true_worlds)

PAIR = (2, ((0, 1, 1),))
FAR_PAIR = (2, ((0, 1, 4),))
LINE = (3, ((0, 1, 1), (1, 2, 2)))
NO_WORLD = (PAIR, 2, 3, (("seen", 0, 0, 1, 2), ("never", 0, 0, 0, 3)))
NO_WORLD_OF_ANOTHER = (PAIR, 3, 3, (("seen", 2, 0, 1, 2), ("never", 2, 0, 0, 3)))
SIX = (PAIR, 2, 3, (("seen", 0, 0, 0, 3), ("met", 0, 1, 1, 2), ("there", 1, 1, 1, 1), ("never", 0, 1, 3, 3),
                    ("apart", 0, 1, 3, 3), ("seen", 1, 1, 0, 3)))
SMALL_CASES = list(EDGE_CASES) + [NO_WORLD, SIX] + random_cases(91, 200) + random_cases(92, 40, persons=3,
                                                                                        greatest_last=2)


def meetings_in(world, one, other):
    return {(moment, place) for moment, (place, left) in enumerate(world[one])
            if left == 0 and world[other][moment] == (place, 0)}


def moments_in(world, who, place):
    return [moment for moment, stand in enumerate(world[who]) if stand == (place, 0)]


class Meetings(unittest.TestCase):
    def test_small_cases(self):
        for case in SMALL_CASES:
            for one, other in itertools.permutations(range(case[1]), 2):
                met = [meetings_in(world, one, other) for world in true_worlds(case)]
                self.assertEqual(can_meet(case, one, other), sorted(set().union(*met)), (case, one, other))
                self.assertIs(must_meet(case, one, other), all(met), (case, one, other))

    def test_by_hand(self):
        case = (LINE, 2, 3, (("there", 0, 0, 0, 0), ("there", 1, 2, 0, 0)))
        self.assertEqual(can_meet(case, 0, 1), [(2, 1), (3, 0), (3, 1), (3, 2)])
        self.assertEqual(can_meet(case, 1, 0), [(2, 1), (3, 0), (3, 1), (3, 2)])
        self.assertIs(must_meet(case, 0, 1), False)

    def test_those_who_can_not_meet(self):
        apart = (LINE, 2, 3, (("apart", 1, 0, 0, 3),))
        no_ways = ((2, ()), 2, 3, (("seen", 0, 0, 2, 2), ("seen", 1, 1, 0, 3)))
        for case in (apart, no_ways):
            self.assertEqual(can_meet(case, 0, 1), [])
            self.assertIs(must_meet(case, 0, 1), False)

    def test_those_who_must_meet(self):
        told = (LINE, 2, 3, (("met", 1, 0, 2, 2),))
        one_place = ((1, ()), 2, 3, ())
        self.assertIs(must_meet(told, 0, 1), True)
        self.assertIs(must_meet(one_place, 1, 0), True)
        self.assertEqual(can_meet(one_place, 0, 1), [(0, 0), (1, 0), (2, 0), (3, 0)])

    def test_must_meet_without_a_told_meeting(self):
        case = (PAIR, 2, 1, (("there", 0, 1, 0, 1), ("there", 1, 1, 1, 1)))
        self.assertIs(must_meet(case, 0, 1), True)

    def test_those_who_meet_at_one_moment_or_another(self):
        case = (PAIR, 2, 2, (("met", 0, 1, 1, 2), ("apart", 0, 1, 0, 0), ("there", 0, 0, 1, 1), ("there", 0, 1, 2, 2)))
        self.assertEqual(can_meet(case, 0, 1), [(1, 0), (2, 1)])
        self.assertIs(must_meet(case, 0, 1), True)

    def test_two_on_the_same_way_do_not_meet(self):
        case = (FAR_PAIR, 2, 2, (("there", 0, 0, 0, 0), ("never", 0, 0, 1, 2), ("there", 1, 0, 0, 0),
                                 ("never", 1, 0, 1, 2)))
        self.assertEqual(can_meet(case, 0, 1), [(0, 0)])

    def test_no_world(self):
        for case in (NO_WORLD, NO_WORLD_OF_ANOTHER):
            self.assertEqual(can_meet(case, 0, 1), [])
            self.assertIs(must_meet(case, 0, 1), True)

    def test_six_tellings(self):
        self.assertEqual(can_meet(SIX, 0, 1), [(0, 0), (0, 1), (1, 1), (2, 0), (2, 1)])
        self.assertIs(must_meet(SIX, 0, 1), True)

    def test_over_a_third_one(self):
        case = (PAIR, 3, 2, (("met", 0, 1, 1, 1), ("met", 1, 2, 1, 1), ("there", 2, 1, 1, 1)))
        self.assertIn((1, 1), can_meet(case, 0, 2))
        self.assertNotIn((1, 0), can_meet(case, 0, 2))
        self.assertIs(must_meet(case, 0, 2), True)

    def test_new_lists(self):
        told_anew(self, can_meet, CASE, 0, 1)
        told_anew(self, can_meet, NO_WORLD, 0, 1)


class AtPlaces(unittest.TestCase):
    def test_small_cases(self):
        for case in SMALL_CASES:
            for who, place in itertools.product(range(case[1]), range(case[0][0])):
                at = [moments_in(world, who, place) for world in true_worlds(case)]
                moments = sorted(set(itertools.chain(*at)))
                self.assertEqual(earliest(case, who, place), moments[0] if moments else None, (case, who, place))
                self.assertEqual(latest(case, who, place), moments[-1] if moments else None, (case, who, place))
                counts = sorted(len(found) for found in at)
                self.assertEqual(stays(case, who, place), (counts[0], counts[-1]) if at else None, (case, who, place))

    def test_by_hand(self):
        case = (LINE, 1, 6, (("there", 0, 0, 0, 0), ("there", 0, 0, 6, 6), ("seen", 0, 1, 0, 6)))
        self.assertEqual([earliest(case, 0, place) for place in range(3)], [0, 1, 3])
        self.assertEqual([latest(case, 0, place) for place in range(3)], [6, 5, 3])
        self.assertEqual([stays(case, 0, place) for place in range(3)], [(2, 6), (1, 5), (0, 1)])

    def test_a_place_at_which_one_never_is(self):
        never = (PAIR, 2, 3, (("never", 0, 1, 0, 3),))
        no_way = ((2, ()), 1, 9, (("seen", 0, 0, 4, 5),))
        for case in (never, no_way):
            self.assertIsNone(earliest(case, 0, 1))
            self.assertIsNone(latest(case, 0, 1))
            self.assertEqual(stays(case, 0, 1), (0, 0))

    def test_all_moments(self):
        one_place = ((1, ()), 1, 9, ())
        no_ways = ((5, ()), 3, 9, (("seen", 0, 0, 4, 4),))
        told = (PAIR, 1, 9, (("there", 0, 0, 0, 9),))
        for case in (one_place, no_ways, told):
            self.assertEqual(stays(case, 0, 0), (10, 10))
            self.assertEqual((earliest(case, 0, 0), latest(case, 0, 0)), (0, 9))

    def test_one_moment(self):
        case = (PAIR, 1, 0, ())
        self.assertEqual((earliest(case, 0, 1), latest(case, 0, 1)), (0, 0))
        self.assertEqual(stays(case, 0, 1), (0, 1))

    def test_no_world(self):
        for case in (NO_WORLD, NO_WORLD_OF_ANOTHER):
            for who, place in itertools.product(range(case[1]), range(2)):
                self.assertIsNone(earliest(case, who, place))
                self.assertIsNone(latest(case, who, place))
                self.assertIsNone(stays(case, who, place))

    def test_the_others_tellings_count(self):
        case = (PAIR, 3, 3, (("met", 1, 0, 0, 3), ("met", 2, 1, 3, 3), ("there", 2, 0, 0, 3), ("never", 0, 1, 0, 3)))
        self.assertEqual(stays(case, 1, 0), (1, 4))
        case = (PAIR, 3, 3, (("apart", 0, 1, 0, 3), ("there", 0, 0, 0, 3)))
        self.assertEqual(stays(case, 1, 0), (0, 0))
        self.assertEqual(stays(case, 2, 0), (0, 4))
        self.assertIsNone(earliest(case, 1, 0))


class Refusals(unittest.TestCase):
    def test_persons_that_the_case_does_not_have(self):
        for wrong in NEVER_RIGHT + (2, 3, 10, (0,), [1]):
            for function in (can_meet, must_meet):
                refusing(self, NoPlace, function, CASE, wrong, 0)
                refusing(self, NoPlace, function, CASE, 1, wrong)
                refusing(self, NoPlace, function, CASE, wrong, wrong)
            for function in (earliest, latest, stays):
                refusing(self, NoPlace, function, CASE, wrong, 0)

    def test_places_that_the_case_does_not_have(self):
        for wrong in NEVER_RIGHT + (3, 4, 10, (0,), [1]):
            for function in (earliest, latest, stays):
                refusing(self, NoPlace, function, CASE, 0, wrong)
                refusing(self, NoPlace, function, NO_WORLD, 0, wrong)

    def test_twice_the_same_person(self):
        for case in (CASE, NO_WORLD):
            for who in (0, 1):
                refusing(self, NoPlace, can_meet, case, who, who)
                refusing(self, NoPlace, must_meet, case, who, who)

    def test_a_person_alone(self):
        case = (PAIR, 1, 3, ())
        for function in (can_meet, must_meet):
            refusing(self, NoPlace, function, case, 0, 1)
            refusing(self, NoPlace, function, case, 0, 0)

    def test_all_persons_and_places_are_taken(self):
        case = ((5, ()), 3, 1, ())
        self.assertEqual(can_meet(case, 2, 0), [(moment, place) for moment in range(2) for place in range(5)])
        self.assertEqual(stays(case, 2, 4), (0, 2))

    def test_no_case_comes_first(self):
        for function in (can_meet, must_meet, earliest, latest, stays):
            refusing(self, NoCase, function, list(CASE), None, None)


if __name__ == "__main__":
    unittest.main()
