"""[3.1], and what [0.3] says of it: a world in which all tellings are true, and how many there are."""

import unittest

from daytellings.cases import with_tellings
from daytellings.days import is_world
from daytellings.worlds import a_world, can_be, how_many
from things import CASE, EDGE_CASES, TOWN, days_by_choosing, random_cases, told_true, true_worlds

PAIR = (2, ((0, 1, 1),))
FAR_PAIR = (2, ((0, 1, 4),))


class SmallCases(unittest.TestCase):
    def check(self, case):
        worlds = true_worlds(case)
        self.assertEqual(how_many(case), len(worlds), case)
        self.assertIs(type(how_many(case)), int)
        self.assertIs(can_be(case), len(worlds) > 0, case)
        self.check_world(case, bool(worlds))

    def check_world(self, case, expected):
        world = a_world(case)
        if not expected:
            self.assertIsNone(world, case)
            return
        self.assertIs(is_world(case, world), True, case)
        for telling in case[3]:
            self.assertTrue(told_true(world, telling), (case, world, telling))

    def test_edges(self):
        for case in EDGE_CASES:
            self.check(case)

    def test_random_cases(self):
        for case in random_cases(11, 250):
            self.check(case)

    def test_random_cases_of_three_persons(self):
        for case in random_cases(12, 80, persons=3, greatest_last=2):
            self.check(case)

    def test_random_cases_with_six_tellings(self):
        for case in random_cases(13, 60, tellings=6):
            self.check(case)

    def test_random_days_of_one_person_that_are_longer(self):
        for case in random_cases(14, 80, persons=1, greatest_last=7):
            self.check(case)


class HowMany(unittest.TestCase):
    def test_without_tellings_all_days_of_all_persons(self):
        for town in ((1, ()), (3, ()), PAIR, FAR_PAIR, TOWN):
            for last in (0, 3, 6):
                days = len(days_by_choosing(town, last))
                for persons in (1, 2, 3):
                    self.assertEqual(how_many((town, persons, last, ())), days ** persons)

    def test_counted_by_hand(self):
        self.assertEqual(how_many((PAIR, 1, 2, ())), 8)
        self.assertEqual(how_many((PAIR, 1, 2, (("there", 0, 0, 1, 1),))), 4)
        self.assertEqual(how_many((PAIR, 1, 2, (("seen", 0, 0, 0, 2),))), 7)
        self.assertEqual(how_many((PAIR, 1, 2, (("never", 0, 0, 0, 2),))), 1)
        self.assertEqual(how_many((PAIR, 2, 2, (("met", 0, 1, 0, 2),))), 56)
        self.assertEqual(how_many((PAIR, 2, 2, (("apart", 0, 1, 0, 2),))), 8)
        self.assertEqual(how_many((PAIR, 2, 2, (("met", 1, 0, 1, 1),))), 32)
        self.assertEqual(how_many((PAIR, 3, 0, (("apart", 0, 1, 0, 0), ("apart", 1, 2, 0, 0)))), 2)

    def test_ways_of_four_moments(self):
        self.assertEqual(how_many((FAR_PAIR, 1, 4, (("there", 0, 0, 0, 0), ("seen", 0, 1, 0, 4)))), 1)
        self.assertEqual(how_many((FAR_PAIR, 1, 4, (("there", 0, 0, 0, 0), ("seen", 0, 1, 0, 3)))), 0)
        self.assertEqual(how_many((FAR_PAIR, 1, 5, (("there", 0, 0, 0, 0), ("seen", 0, 1, 0, 5)))), 3)

    def test_the_greatest_case_without_tellings(self):
        full = (5, tuple((one, other, 1) for one in range(5) for other in range(one + 1, 5)))
        self.assertEqual(how_many((full, 3, 9, ())), 5 ** 30)
        self.assertEqual(how_many((full, 3, 9, (("there", 0, 0, 0, 9), ("there", 1, 4, 5, 5)))), 5 ** 19)

    def test_great_cases_with_persons_tied(self):
        full = (5, tuple((one, other, 1) for one in range(5) for other in range(one + 1, 5)))
        case = (full, 3, 9, (("apart", 0, 1, 0, 9), ("apart", 1, 2, 0, 9)))
        self.assertEqual(how_many(case), (5 * 4 * 4) ** 10)
        case = (full, 3, 9, (("apart", 0, 1, 0, 9), ("apart", 1, 2, 0, 9), ("apart", 0, 2, 0, 9)))
        self.assertEqual(how_many(case), (5 * 4 * 3) ** 10)
        case = (full, 3, 9, (("met", 0, 1, 0, 9),))
        self.assertEqual(how_many(case), (25 ** 10 - 20 ** 10) * 5 ** 10)

    def test_the_order_of_tellings_is_the_same(self):
        for case in random_cases(15, 40):
            self.assertEqual(how_many(with_tellings(case, case[3][::-1])), how_many(case))


class AWorld(unittest.TestCase):
    def test_the_only_one(self):
        case = (FAR_PAIR, 2, 4, (("there", 0, 0, 0, 0), ("seen", 0, 1, 0, 4), ("there", 1, 0, 0, 4)))
        leaving = ((0, 0), (1, 3), (1, 2), (1, 1), (1, 0))
        self.assertEqual(a_world(case), (leaving, ((0, 0),) * 5))
        case = (TOWN, 3, 3, (("there", 2, 2, 0, 3), ("met", 0, 2, 0, 0), ("there", 0, 0, 3, 3), ("never", 0, 1, 0, 3),
                             ("there", 1, 1, 0, 3)))
        self.assertEqual(a_world(case), (((2, 0), (0, 2), (0, 1), (0, 0)), ((1, 0),) * 4, ((2, 0),) * 4))

    def test_where_there_is_none(self):
        self.assertIsNone(a_world((PAIR, 1, 3, (("seen", 0, 0, 1, 2), ("never", 0, 0, 0, 3)))))
        self.assertIsNone(a_world((PAIR, 3, 3, (("met", 0, 2, 1, 1), ("apart", 2, 0, 1, 2)))))
        self.assertIsNone(a_world(((1, ()), 3, 0, (("never", 2, 0, 0, 0),))))

    def test_an_ordinary_case(self):
        self.assertIs(can_be(CASE), True)
        for telling in CASE[3]:
            self.assertTrue(told_true(a_world(CASE), telling))

    def test_it_is_made_of_tuples_and_whole_numbers(self):
        world = a_world(CASE)
        self.assertIs(type(world), tuple)
        for day in world:
            self.assertIs(type(day), tuple)
            for stand in day:
                self.assertIs(type(stand), tuple)
                self.assertEqual([type(part) for part in stand], [int, int])


if __name__ == "__main__":
    unittest.main()
