"""[2.2], and what [0.3] says of it: which tellings are true of a world."""

import unittest

from daytellings.cases import opposite
from daytellings.errors import NoCase, NoTelling
from daytellings.holding import all_true, is_true, true_ones
from things import (CASE, EDGE_CASES, NEVER_RIGHT, TELLINGS, TOWN, random_cases, refusing, spoilt, told_anew, told_true,
                    whatever_worlds, with_other_lengths)

STAYING = ((2, 0),) * 7
WALKING = ((0, 0), (2, 2), (2, 1), (2, 0), (1, 1), (1, 0), (0, 0))
WORLD = (WALKING, STAYING)


def some_worlds(case):
    """At most some hundred of all worlds of a case, from all over them."""
    worlds = whatever_worlds(*case[:3])
    return worlds[::len(worlds) // 200 + 1]


class IsTrue(unittest.TestCase):
    def holds(self, world, *tellings):
        for telling in tellings:
            self.assertIs(is_true(CASE, world, telling), True, telling)

    def fails(self, world, *tellings):
        for telling in tellings:
            self.assertIs(is_true(CASE, world, telling), False, telling)

    def test_there_is_at_all_moments(self):
        self.holds(WORLD, ("there", 0, 2, 3, 3), ("there", 1, 2, 0, 6), ("there", 0, 0, 6, 6), ("there", 0, 0, 0, 0))
        self.fails(WORLD, ("there", 0, 2, 2, 3), ("there", 0, 2, 3, 4), ("there", 0, 0, 0, 6), ("there", 1, 0, 0, 6))

    def test_seen_is_at_one_of_them_at_least(self):
        self.holds(WORLD, ("seen", 0, 2, 0, 6), ("seen", 0, 2, 3, 3), ("seen", 0, 2, 0, 3), ("seen", 0, 2, 3, 6),
                   ("seen", 0, 0, 0, 6))
        self.fails(WORLD, ("seen", 0, 2, 0, 2), ("seen", 0, 2, 4, 6), ("seen", 1, 0, 0, 6), ("seen", 0, 1, 0, 4))

    def test_never_is_at_none_of_them(self):
        self.holds(WORLD, ("never", 0, 2, 0, 2), ("never", 0, 2, 4, 6), ("never", 1, 0, 0, 6), ("never", 0, 0, 1, 5))
        self.fails(WORLD, ("never", 0, 2, 0, 6), ("never", 0, 2, 3, 3), ("never", 0, 0, 0, 5), ("never", 0, 0, 1, 6))

    def test_met_is_at_one_of_them_at_least(self):
        self.holds(WORLD, ("met", 0, 1, 0, 6), ("met", 1, 0, 3, 3), ("met", 0, 1, 0, 3), ("met", 1, 0, 3, 6))
        self.fails(WORLD, ("met", 0, 1, 0, 2), ("met", 1, 0, 4, 6), ("met", 0, 1, 6, 6))

    def test_apart_is_at_none_of_them(self):
        self.holds(WORLD, ("apart", 0, 1, 0, 2), ("apart", 1, 0, 4, 6), ("apart", 0, 1, 6, 6))
        self.fails(WORLD, ("apart", 0, 1, 0, 6), ("apart", 1, 0, 3, 3), ("apart", 0, 1, 0, 3), ("apart", 1, 0, 3, 6))

    def test_on_the_way_at_each_moment(self):
        self.holds(WORLD, ("never", 0, 2, 1, 2), ("apart", 0, 1, 1, 2), ("apart", 1, 0, 1, 1))
        self.fails(WORLD, ("there", 0, 2, 1, 2), ("seen", 0, 2, 1, 2), ("met", 0, 1, 1, 2), ("met", 1, 0, 2, 2))

    def test_two_side_by_side_on_the_way_do_not_meet(self):
        together = (WALKING, WALKING)
        self.holds(together, ("apart", 0, 1, 1, 2), ("apart", 1, 0, 4, 4), ("met", 0, 1, 0, 0), ("met", 1, 0, 1, 3))
        self.fails(together, ("met", 0, 1, 1, 2), ("met", 1, 0, 4, 4), ("apart", 0, 1, 0, 1))

    def test_three_persons_and_one_place(self):
        case = ((1, ()), 3, 0, ())
        world = (((0, 0),),) * 3
        self.assertIs(is_true(case, world, ("met", 2, 0, 0, 0)), True)
        self.assertIs(is_true(case, world, ("apart", 1, 2, 0, 0)), False)

    def test_the_telling_need_not_be_one_of_those_of_the_case(self):
        self.assertIs(is_true((TOWN, 2, 6, ()), WORLD, ("met", 0, 1, 3, 3)), True)
        self.assertIs(is_true((TOWN, 2, 6, TELLINGS[:1] * 6), WORLD, ("met", 0, 1, 3, 3)), True)

    def test_small_cases(self):
        for case in list(EDGE_CASES) + random_cases(1, 60):
            for world in some_worlds(case):
                for telling in case[3]:
                    self.assertIs(is_true(case, world, telling), told_true(world, telling), (case, world, telling))

    def test_the_opposite_is_true_just_where_it_is_not(self):
        for case in random_cases(2, 40):
            for telling in case[3]:
                if opposite(telling) is not None:
                    for world in some_worlds(case)[:50]:
                        self.assertIsNot(is_true(case, world, telling), is_true(case, world, opposite(telling)))

    def test_what_is_no_telling_is_refused(self):
        for telling in TELLINGS:
            for wrong in spoilt(telling) + with_other_lengths(telling):
                refusing(self, NoTelling, is_true, CASE, WORLD, wrong)
        for wrong in (("seen", 2, 0, 0, 6), ("seen", 0, 3, 0, 6), ("met", 0, 0, 0, 6), ("met", 0, 2, 0, 6),
                      ("seen", 0, 0, 0, 7), ("seen", 0, 0, 4, 3), ("seen", 0, 0, -1, 3), TELLINGS, 0):
            refusing(self, NoTelling, is_true, CASE, WORLD, wrong)

    def test_what_is_no_world_is_refused(self):
        for wrong in no_worlds():
            refusing(self, NoCase, is_true, CASE, wrong, TELLINGS[0])

    def test_several_refusals(self):
        refusing(self, NoCase, is_true, None, None, None)
        refusing(self, NoCase, is_true, None, WORLD, TELLINGS[0])
        for wrong in no_worlds():
            refusing(self, NoTelling, is_true, CASE, wrong, list(TELLINGS[0]))
            refusing(self, NoTelling, is_true, CASE, wrong, None)


def no_worlds():
    leap = STAYING[:3] + ((0, 0),) + STAYING[4:]
    return (spoilt(WORLD) + with_other_lengths(WORLD)
            + [(), (WALKING,), WORLD + (STAYING,), (leap, WALKING), (WALKING, leap), list(WORLD), WALKING, 0, CASE])


class TrueOnes(unittest.TestCase):
    def test_an_ordinary_case(self):
        self.assertEqual(true_ones(CASE, WORLD), [2, 3, 4])
        self.assertEqual(true_ones(CASE, (STAYING, WALKING)), [0, 1, 2, 3, 4])
        self.assertEqual(true_ones(CASE, (STAYING, STAYING)), [0, 2, 3])

    def test_none_are_told(self):
        self.assertEqual(true_ones((TOWN, 2, 6, ()), WORLD), [])
        self.assertEqual(true_ones((TOWN, 2, 6, (("never", 0, 0, 0, 6),)), WORLD), [])

    def test_a_telling_twice_has_two_numbers(self):
        case = (TOWN, 2, 6, (TELLINGS[3], TELLINGS[0], TELLINGS[3], TELLINGS[0], TELLINGS[3], TELLINGS[3]))
        self.assertEqual(true_ones(case, WORLD), [0, 2, 4, 5])

    def test_small_cases(self):
        for case in list(EDGE_CASES) + random_cases(3, 60):
            for world in some_worlds(case):
                expected = [number for number in range(len(case[3])) if told_true(world, case[3][number])]
                self.assertEqual(true_ones(case, world), expected, (case, world))
                self.assertIs(all_true(case, world), len(expected) == len(case[3]), (case, world))

    def test_each_time_a_new_list(self):
        told_anew(self, true_ones, CASE, WORLD)
        self.assertIs(type(true_ones(CASE, WORLD)), list)


class AllTrue(unittest.TestCase):
    def test_ordinary_worlds(self):
        self.assertIs(all_true(CASE, (STAYING, WALKING)), True)
        self.assertIs(all_true(CASE, WORLD), False)
        self.assertIs(all_true(CASE, (STAYING, STAYING)), False)

    def test_without_tellings_all_are(self):
        self.assertIs(all_true((TOWN, 2, 6, ()), WORLD), True)

    def test_one_false_one_is_enough(self):
        for place in range(6):
            tellings = [("seen", 1, 2, 0, 6)] * 6
            tellings[place] = ("never", 1, 2, 0, 6)
            self.assertIs(all_true((TOWN, 2, 6, tuple(tellings)), WORLD), False)

    def test_what_is_no_world_is_refused(self):
        for wrong in no_worlds():
            refusing(self, NoCase, true_ones, CASE, wrong)
            refusing(self, NoCase, all_true, CASE, wrong)
        for function in (true_ones, all_true):
            refusing(self, NoCase, function, (TOWN, 1, 6, ()), WORLD)
            refusing(self, NoCase, function, (TOWN, 2, 5, ()), WORLD)
            for wrong in NEVER_RIGHT:
                refusing(self, NoCase, function, wrong, wrong)


if __name__ == "__main__":
    unittest.main()
