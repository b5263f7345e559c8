"""[1.2], and what [0.3] and [3.1] say of it: cases and tellings."""

import unittest

from daytellings.cases import is_case, is_telling, opposite, with_tellings
from daytellings.errors import NoCase
from things import (CASE, NEVER_RIGHT, TELLINGS, TOWN, refusing, spoilt, with_lists_for_tuples, with_odd_parts,
                    with_truths_for_numbers)

FULL_CASE = ((5, ()), 3, 9, TELLINGS + (("apart", 2, 0, 0, 9),))


class Holding(unittest.TestCase):
    def holds(self, function, *things):
        for thing in things:
            self.assertIs(function(thing), True, thing)

    def fails(self, function, *things):
        for thing in things:
            self.assertIs(function(thing), False, thing)


class IsCase(Holding):
    def test_ordinary_cases(self):
        self.holds(is_case, CASE, FULL_CASE, ((1, ()), 1, 0, ()), (TOWN, 3, 4, TELLINGS[:1]))

    def test_number_of_persons(self):
        self.holds(is_case, *[(TOWN, persons, 6, ()) for persons in (1, 2, 3)])
        self.fails(is_case, *[(TOWN, persons, 6, ()) for persons in (-1, 0, 4, 5)])

    def test_last_moment(self):
        self.holds(is_case, *[(TOWN, 1, last, ()) for last in range(10)])
        self.fails(is_case, *[(TOWN, 1, last, ()) for last in (-2, -1, 10, 11)])

    def test_number_of_tellings(self):
        self.holds(is_case, *[(TOWN, 2, 6, TELLINGS[:1] * number) for number in range(7)])
        self.fails(is_case, (TOWN, 2, 6, TELLINGS[:1] * 7), (TOWN, 2, 6, TELLINGS[:1] * 8))

    def test_the_town_is_one(self):
        self.fails(is_case, ((0, ()), 1, 0, ()), ((6, ()), 1, 0, ()), ((2, ((1, 0, 1),)), 1, 0, ()))

    def test_each_telling_is_one_of_this_case(self):
        beyond_place = ("seen", 0, 3, 0, 6)
        beyond_person = ("met", 0, 2, 0, 6)
        beyond_last = ("seen", 0, 0, 0, 7)
        for wrong in (beyond_place, beyond_person, beyond_last):
            self.fails(is_case, (TOWN, 2, 6, (wrong,)), (TOWN, 2, 6, TELLINGS + (wrong,)),
                       (TOWN, 2, 6, (wrong,) + TELLINGS))
            self.holds(is_case, ((4, ()), 3, 7, (wrong,)))

    def test_tellings_need_not_rise_nor_differ(self):
        self.holds(is_case, (TOWN, 2, 6, TELLINGS[::-1]), (TOWN, 2, 6, TELLINGS[1:2] * 3))

    def test_numbers_of_parts(self):
        self.fails(is_case, (), CASE[:3], CASE + ((),), (TOWN, 1, 0), TOWN, TELLINGS[0])

    def test_any_thing_is_taken(self):
        self.fails(is_case, 0, 1, *NEVER_RIGHT)
        self.fails(is_case, *with_odd_parts(CASE))

    def test_lists_are_no_tuples(self):
        self.fails(is_case, *with_lists_for_tuples(CASE))

    def test_truths_are_no_numbers(self):
        wrong = with_truths_for_numbers(CASE)
        self.assertGreater(len(wrong), 10)
        self.fails(is_case, *wrong)
        self.fails(is_case, (TOWN, True, 0, ()), (TOWN, 1, False, ()))


class IsTelling(Holding):
    def is_one(self, thing):
        return is_telling(CASE, thing)

    def test_ordinary_tellings(self):
        self.holds(self.is_one, *TELLINGS)
        for word in ("there", "seen", "never"):
            self.holds(self.is_one, (word, 0, 0, 0, 0), (word, 1, 2, 6, 6), (word, 1, 1, 0, 6))
        for word in ("met", "apart"):
            self.holds(self.is_one, (word, 0, 1, 0, 0), (word, 1, 0, 6, 6), (word, 1, 0, 0, 6))

    def test_words(self):
        for word in ("", "There", "SEEN", "seen ", "sees", "a", "opposite", 0, None, True, [], ["seen"], ("seen",)):
            self.fails(self.is_one, (word, 0, 1, 0, 6))

    def test_who_is_a_person_of_the_case(self):
        for word in ("there", "seen", "never", "met", "apart"):
            self.fails(self.is_one, (word, -1, 0, 0, 6), (word, 2, 0, 0, 6), (word, 3, 1, 0, 6))

    def test_what_is_a_place_of_the_town(self):
        for word in ("there", "seen", "never"):
            self.fails(self.is_one, (word, 0, -1, 0, 6), (word, 0, 3, 0, 6))

    def test_a_place_may_bear_the_number_of_the_person(self):
        self.holds(self.is_one, ("seen", 1, 1, 0, 6), ("there", 0, 0, 0, 6), ("never", 1, 1, 0, 6))

    def test_what_is_another_person_of_met_and_apart(self):
        for word in ("met", "apart"):
            self.fails(self.is_one, (word, 0, 0, 0, 6), (word, 1, 1, 0, 6))
            self.fails(self.is_one, (word, 0, 2, 0, 6), (word, 0, -1, 0, 6))

    def test_one_person_meets_nobody_and_one_place_is_enough(self):
        alone = ((5, ()), 1, 6, ())
        together = ((1, ()), 3, 6, ())
        self.assertIs(is_telling(alone, ("met", 0, 1, 0, 6)), False)
        self.assertIs(is_telling(alone, ("seen", 0, 4, 0, 6)), True)
        self.assertIs(is_telling(together, ("met", 0, 2, 0, 6)), True)
        self.assertIs(is_telling(together, ("seen", 0, 1, 0, 6)), False)

    def test_moments(self):
        for word, who, what in (("there", 0, 2), ("seen", 0, 2), ("never", 0, 2), ("met", 0, 1), ("apart", 0, 1)):
            self.holds(self.is_one, (word, who, what, 3, 3), (word, who, what, 0, 6))
            self.fails(self.is_one, (word, who, what, 4, 3), (word, who, what, 6, 0))
            self.fails(self.is_one, (word, who, what, 0, 7), (word, who, what, 7, 7))
            self.fails(self.is_one, (word, who, what, -1, 3), (word, who, what, -2, -1))

    def test_the_only_moment(self):
        case = ((1, ()), 1, 0, ())
        self.assertIs(is_telling(case, ("there", 0, 0, 0, 0)), True)
        self.assertIs(is_telling(case, ("there", 0, 0, 0, 1)), False)

    def test_a_case_may_be_full(self):
        self.assertIs(is_telling(FULL_CASE, ("seen", 2, 4, 9, 9)), True)

    def test_numbers_of_parts(self):
        self.fails(self.is_one, (), TELLINGS[0][:4], TELLINGS[0] + (6,), TELLINGS)

    def test_any_thing_is_taken(self):
        self.fails(self.is_one, 0, 1, *NEVER_RIGHT)
        for telling in TELLINGS:
            self.fails(self.is_one, *spoilt(telling))

    def test_what_is_no_case_is_refused(self):
        for wrong in list(NEVER_RIGHT) + spoilt(CASE) + [(TOWN, 2, 6, TELLINGS[:1] * 7), (TOWN, 0, 6, ())]:
            refusing(self, NoCase, is_telling, wrong, TELLINGS[0])
        refusing(self, NoCase, is_telling, None, None)
        refusing(self, NoCase, is_telling, TELLINGS[0], CASE)

    def test_what_is_handed_in_is_not_changed(self):
        telling = ["seen", 0, [1], 0, 6]
        self.fails(self.is_one, telling)
        self.assertEqual(telling, ["seen", 0, [1], 0, 6])


class Opposite(unittest.TestCase):
    def test_seen_and_never(self):
        self.assertEqual(opposite(("seen", 0, 2, 1, 5)), ("never", 0, 2, 1, 5))
        self.assertEqual(opposite(("never", 0, 2, 1, 5)), ("seen", 0, 2, 1, 5))

    def test_met_and_apart(self):
        self.assertEqual(opposite(("met", 2, 0, 3, 3)), ("apart", 2, 0, 3, 3))
        self.assertEqual(opposite(("apart", 2, 0, 3, 3)), ("met", 2, 0, 3, 3))

    def test_there_has_none(self):
        self.assertIsNone(opposite(("there", 0, 2, 1, 5)))
        self.assertIsNone(opposite(("there", 0, 0, 0, 0)))

    def test_it_is_a_telling_of_the_same_case_and_its_opposite_is_the_first(self):
        for telling in TELLINGS[1:]:
            self.assertIs(is_telling(CASE, opposite(telling)), True)
            self.assertEqual(opposite(opposite(telling)), telling)

    def test_somewhat_beyond_the_bounds_nothing_is_refused(self):
        self.assertEqual(opposite(("seen", 4, 6, 9, 11)), ("never", 4, 6, 9, 11))


class WithTellings(unittest.TestCase):
    def test_of_a_tuple_and_of_a_list(self):
        expected = (TOWN, 2, 6, TELLINGS[:2])
        self.assertEqual(with_tellings(CASE, TELLINGS[:2]), expected)
        self.assertEqual(with_tellings(CASE, list(TELLINGS[:2])), expected)
        self.assertIs(is_case(with_tellings(CASE, list(TELLINGS))), True)

    def test_of_none(self):
        self.assertEqual(with_tellings(CASE, ()), (TOWN, 2, 6, ()))
        self.assertEqual(with_tellings(CASE, []), (TOWN, 2, 6, ()))

    def test_their_order_is_kept(self):
        self.assertEqual(with_tellings(CASE, list(TELLINGS[::-1]))[3], TELLINGS[::-1])

    def test_it_looks_at_nothing(self):
        self.assertEqual(with_tellings(CASE, TELLINGS[:1] * 7), (TOWN, 2, 6, TELLINGS[:1] * 7))
        self.assertEqual(with_tellings(CASE, [None, "a", ("met", 0, 0, 9, 1)]),
                         (TOWN, 2, 6, (None, "a", ("met", 0, 0, 9, 1))))
        self.assertEqual(with_tellings(((0, ()), 7, -1, None), TELLINGS), ((0, ()), 7, -1, TELLINGS))
        self.assertEqual(with_tellings((None, "a", True, TELLINGS[:1] * 7), []), (None, "a", True, ()))

    def test_the_list_is_neither_changed_nor_kept(self):
        tellings = list(TELLINGS[:2])
        made = with_tellings(CASE, tellings)
        self.assertEqual(tellings, list(TELLINGS[:2]))
        tellings.clear()
        self.assertEqual(made, (TOWN, 2, 6, TELLINGS[:2]))

    def test_the_case_is_as_before(self):
        with_tellings(CASE, [])
        self.assertEqual(CASE, (TOWN, 2, 6, TELLINGS))


if __name__ == "__main__":
    unittest.main()
