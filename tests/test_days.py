"""[2.1], and what [0.3] and [3.1] say of it: stands, days and worlds."""

import itertools
import unittest

from daytellings.days import is_day, is_world, places_at, steps
from daytellings.errors import NoCase
from things import CASE, NEVER_RIGHT, TELLINGS, TOWN, days_by_choosing, refusing, spoilt, with_other_lengths

STAYING = ((2, 0),) * 7
WALKING = ((0, 0), (2, 2), (2, 1), (2, 0), (1, 1), (1, 0), (0, 0))
ENDING_ON_THE_WAY = ((1, 0), (0, 0), (0, 0), (0, 0), (0, 0), (2, 2), (2, 1))
DAYS = (STAYING, WALKING, ENDING_ON_THE_WAY)


class Steps(unittest.TestCase):
    def test_from_a_place(self):
        self.assertEqual(steps(TOWN, (0, 0)), [(0, 0), (1, 0), (2, 2)])
        self.assertEqual(steps(TOWN, (1, 0)), [(0, 0), (1, 0), (2, 1)])
        self.assertEqual(steps(TOWN, (2, 0)), [(0, 2), (1, 1), (2, 0)])

    def test_on_the_way(self):
        self.assertEqual(steps(TOWN, (2, 2)), [(2, 1)])
        self.assertEqual(steps(TOWN, (2, 1)), [(2, 0)])
        self.assertEqual(steps((2, ((0, 1, 4),)), (0, 3)), [(0, 2)])

    def test_shortest_and_longest_ways(self):
        self.assertEqual(steps((2, ((0, 1, 1),)), (0, 0)), [(0, 0), (1, 0)])
        self.assertEqual(steps((2, ((0, 1, 4),)), (0, 0)), [(0, 0), (1, 3)])
        self.assertEqual(steps((2, ((0, 1, 4),)), (1, 0)), [(0, 3), (1, 0)])

    def test_a_place_without_ways(self):
        self.assertEqual(steps((1, ()), (0, 0)), [(0, 0)])
        self.assertEqual(steps((3, ((0, 2, 2),)), (1, 0)), [(1, 0)])

    def test_it_rises(self):
        town = (5, ((0, 2, 4), (1, 2, 1), (2, 3, 3), (2, 4, 2)))
        self.assertEqual(steps(town, (2, 0)), [(0, 3), (1, 0), (2, 0), (3, 2), (4, 1)])

    def test_each_time_a_new_list(self):
        for stand in ((0, 0), (2, 2)):
            told = steps(TOWN, stand)
            expected = list(told)
            told.append("changed")
            self.assertEqual(steps(TOWN, stand), expected)
            self.assertIs(type(told), list)

    def test_somewhat_beyond_the_bounds_nothing_is_refused(self):
        self.assertEqual(steps((2, ((0, 1, 5),)), (0, 0)), [(0, 0), (1, 4)])
        self.assertEqual(steps((7, ((5, 6, 1),)), (6, 0)), [(5, 0), (6, 0)])
        self.assertEqual(steps(TOWN, (1, 5)), [(1, 4)])


class IsDay(unittest.TestCase):
    def holds(self, *things):
        for thing in things:
            self.assertIs(is_day(CASE, thing), True, thing)

    def fails(self, *things):
        for thing in things:
            self.assertIs(is_day(CASE, thing), False, thing)

    def test_ordinary_days(self):
        self.holds(*DAYS)

    def test_just_the_days_that_can_be_chosen(self):
        stands = list(itertools.product(range(-1, 3), range(-1, 4)))
        for town in ((1, ()), (2, ()), (2, ((0, 1, 1),)), (2, ((0, 1, 2),)), (2, ((0, 1, 3),))):
            for last in (0, 1, 2):
                case = (town, 1, last, ())
                found = {day for day in itertools.product(stands, repeat=last + 1) if is_day(case, day)}
                self.assertEqual(found, days_by_choosing(town, last), case)

    def test_every_chosen_day_of_a_greater_case(self):
        for day in days_by_choosing(TOWN, 6):
            self.holds(day)

    def test_the_first_stand_is_at_a_place_of_the_town(self):
        self.fails(((2, 2), (2, 1)) + STAYING[2:], ((2, 1),) + STAYING[1:])
        self.fails(((3, 0),) * 7, ((-1, 0),) * 7)

    def test_too_short_or_too_long(self):
        for day in DAYS:
            self.fails((), day[:1], day[:-1], day + ((2, 0),))

    def test_one_moment(self):
        case = ((2, ((0, 1, 2),)), 1, 0, ())
        self.assertIs(is_day(case, ((1, 0),)), True)
        for wrong in ((), ((1, 1),), ((2, 0),), ((1, 0), (1, 0))):
            self.assertIs(is_day(case, wrong), False, wrong)

    def test_a_stand_that_is_no_step(self):
        for number in range(1, 7):
            leap = STAYING[:number] + ((0, 0),) + STAYING[number + 1:]
            self.fails(leap)
        self.fails(WALKING[:2] + ((2, 2),) + WALKING[2:6])
        self.fails(((0, 0), (2, 1), (2, 0)) + STAYING[:4])
        self.fails(((0, 0), (2, 3), (2, 2), (2, 1)) + STAYING[:3])
        self.fails(((0, 0), (2, 2), (0, 1)) + ((0, 0),) * 4)
        self.fails(STAYING[:6] + ((2, 1),), STAYING[:6] + ((2, -1),))

    def test_only_by_ways_that_are_there(self):
        case = ((3, ((0, 1, 1),)), 1, 1, ())
        self.assertIs(is_day(case, ((0, 0), (1, 0))), True)
        self.assertIs(is_day(case, ((1, 0), (0, 0))), True)
        self.assertIs(is_day(case, ((1, 0), (2, 0))), False)

    def test_any_thing_is_taken(self):
        self.fails(0, 1, *NEVER_RIGHT)
        for day in DAYS:
            self.fails(*spoilt(day))
            self.fails(*with_other_lengths(day))

    def test_truths_are_no_numbers(self):
        case = ((2, ((0, 1, 2),)), 1, 1, ())
        self.assertIs(is_day(case, ((0, 0), (1, 1))), True)
        for wrong in (((False, 0), (1, 1)), ((0, False), (1, 1)), ((0, 0), (True, 1)), ((0, 0), (1, True))):
            self.assertIs(is_day(case, wrong), False, wrong)

    def test_what_is_no_case_is_refused(self):
        for wrong in list(NEVER_RIGHT) + spoilt(CASE) + [(TOWN, 2, 6, TELLINGS[:1] * 7), (TOWN, 2, 10, ()), TOWN]:
            refusing(self, NoCase, is_day, wrong, STAYING)
        refusing(self, NoCase, is_day, None, None)

    def test_what_is_handed_in_is_not_changed(self):
        thing = [[2, 0]] * 7
        self.fails(thing)
        self.assertEqual(thing, [[2, 0]] * 7)


class IsWorld(unittest.TestCase):
    def holds(self, case, *things):
        for thing in things:
            self.assertIs(is_world(case, thing), True, thing)

    def fails(self, case, *things):
        for thing in things:
            self.assertIs(is_world(case, thing), False, thing)

    def test_ordinary_worlds(self):
        self.holds(CASE, *itertools.product(DAYS, repeat=2))

    def test_a_day_for_each_person(self):
        for persons in (1, 2, 3):
            case = (TOWN, persons, 6, ())
            for days in range(5):
                self.assertIs(is_world(case, (WALKING,) * days), days == persons, (persons, days))

    def test_whatever_the_tellings(self):
        case = (TOWN, 1, 6, (("never", 0, 2, 0, 6), ("seen", 0, 2, 0, 6)))
        self.holds(case, (STAYING,), (WALKING,))

    def test_each_day_is_one(self):
        leap = STAYING[:3] + ((0, 0),) + STAYING[4:]
        self.fails(CASE, (leap, WALKING), (WALKING, leap), (STAYING[:6], WALKING), (WALKING, STAYING + STAYING[:1]))

    def test_any_thing_is_taken(self):
        self.fails(CASE, 0, 1, STAYING, WALKING, *NEVER_RIGHT)
        self.fails(CASE, *spoilt((WALKING, STAYING)))
        self.fails(CASE, *with_other_lengths((WALKING, STAYING)))

    def test_what_is_no_case_is_refused(self):
        for wrong in list(NEVER_RIGHT) + spoilt(CASE) + [(TOWN, 4, 6, ()), (TOWN, 2, -1, ()), TOWN]:
            refusing(self, NoCase, is_world, wrong, (WALKING, STAYING))
        refusing(self, NoCase, is_world, None, None)


class PlacesAt(unittest.TestCase):
    def test_at_places_and_on_the_way(self):
        world = (WALKING, STAYING)
        told = [places_at(world, moment) for moment in range(7)]
        self.assertEqual(told, [(0, 2), (None, 2), (None, 2), (2, 2), (None, 2), (1, 2), (0, 2)])

    def test_one_person_and_three(self):
        self.assertEqual(places_at((STAYING,), 0), (2,))
        self.assertEqual(places_at((WALKING, STAYING, ENDING_ON_THE_WAY), 6), (0, 2, None))
        self.assertEqual(places_at((WALKING, WALKING), 1), (None, None))

    def test_somewhat_beyond_the_bounds_nothing_is_refused(self):
        self.assertEqual(places_at((STAYING * 2,) * 4, 13), (2, 2, 2, 2))


if __name__ == "__main__":
    unittest.main()
