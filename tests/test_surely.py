"""[4.1], [4.2], and what [0.3] says of them: where persons are, what another telling would be, needless tellings."""

import random
import unittest

from daytellings.errors import NoCase, NoPlace, NoTelling
from daytellings.surely import could_be, must_be, needless, on_the_way, surely_at, verdict, where
from things import (CASE, EDGE_CASES, NEVER_RIGHT, TELLINGS, TOWN, random_case, random_cases, random_telling, refusing,
                    spoilt, told_anew, told_true, true_worlds, with_other_lengths)

PAIR = (2, ((0, 1, 1),))
FAR_PAIR = (2, ((0, 1, 4),))
LINE = (3, ((0, 1, 1), (1, 2, 2)))
NO_WORLD = (PAIR, 2, 3, (("seen", 0, 0, 1, 2), ("never", 0, 0, 0, 3)))
SIX = (PAIR, 2, 3, (("seen", 0, 0, 0, 3), ("met", 0, 1, 1, 2), ("there", 1, 1, 1, 1), ("never", 0, 1, 3, 3),
                    ("apart", 0, 1, 3, 3), ("seen", 1, 1, 0, 3)))
SMALL_CASES = list(EDGE_CASES) + random_cases(31, 100) + random_cases(32, 25, persons=3, greatest_last=2)


class Places(unittest.TestCase):
    def check(self, case):
        worlds = true_worlds(case)
        for who in range(case[1]):
            for moment in range(case[2] + 1):
                stands = {world[who][moment] for world in worlds}
                at = sorted({place for place, left in stands if left == 0})
                away = any(left > 0 for place, left in stands)
                self.assertEqual(where(case, who, moment), at, (case, who, moment))
                self.assertIs(on_the_way(case, who, moment), away, (case, who, moment))
                surely = at[0] if len(at) == 1 and not away else None
                self.assertEqual(surely_at(case, who, moment), surely, (case, who, moment))

    def test_small_cases(self):
        for case in SMALL_CASES:
            self.check(case)

    def test_by_hand(self):
        case = (LINE, 2, 4, (("there", 0, 0, 0, 0), ("there", 0, 2, 4, 4), ("met", 0, 1, 4, 4)))
        self.assertEqual([where(case, 0, moment) for moment in range(5)], [[0], [0, 1], [1], [2], [2]])
        self.assertEqual([on_the_way(case, 0, moment) for moment in range(5)], [False, False, True, True, False])
        self.assertEqual([surely_at(case, 0, moment) for moment in range(5)], [0, None, None, None, 2])
        self.assertEqual(where(case, 1, 0), [0, 1, 2])
        self.assertEqual(surely_at(case, 1, 4), 2)

    def test_one_place_and_places_without_ways(self):
        self.assertEqual(where(((1, ()), 3, 9, ()), 2, 9), [0])
        self.assertEqual(surely_at(((1, ()), 3, 9, ()), 2, 9), 0)
        self.assertEqual(where(((5, ()), 1, 9, (("never", 0, 2, 4, 4),)), 0, 9), [0, 1, 3, 4])
        self.assertIs(on_the_way(((5, ()), 1, 9, ()), 0, 5), False)

    def test_on_the_way_in_all_worlds(self):
        case = (FAR_PAIR, 1, 4, (("there", 0, 0, 0, 0), ("there", 0, 1, 4, 4)))
        for moment in (1, 2, 3):
            self.assertEqual(where(case, 0, moment), [])
            self.assertIs(on_the_way(case, 0, moment), True)
            self.assertIsNone(surely_at(case, 0, moment))

    def test_at_one_place_alone_or_on_the_way(self):
        case = (FAR_PAIR, 1, 1, (("there", 0, 0, 0, 0),))
        self.assertEqual(where(case, 0, 1), [0])
        self.assertIs(on_the_way(case, 0, 1), True)
        self.assertIsNone(surely_at(case, 0, 1))

    def test_without_a_world(self):
        for who in (0, 1):
            for moment in range(4):
                self.assertEqual(where(NO_WORLD, who, moment), [])
                self.assertIs(on_the_way(NO_WORLD, who, moment), False)
                self.assertIsNone(surely_at(NO_WORLD, who, moment))

    def test_a_case_may_be_full(self):
        worlds = true_worlds(SIX)
        self.assertTrue(worlds)
        self.check(SIX)

    def test_persons_and_moments_that_the_case_does_not_have(self):
        odd = [-1, -2, 10 ** 20] + list(NEVER_RIGHT)
        for function in (where, on_the_way, surely_at):
            for wrong in odd + [2, 3]:
                refusing(self, NoPlace, function, CASE, wrong, 0)
            for wrong in odd + [7, 8]:
                refusing(self, NoPlace, function, CASE, 0, wrong)
                refusing(self, NoPlace, function, CASE, wrong, wrong)
            refusing(self, NoPlace, function, ((1, ()), 1, 0, ()), 1, 0)
            refusing(self, NoPlace, function, ((1, ()), 1, 0, ()), 0, 1)
            # Also where there is no world at all.
            refusing(self, NoPlace, function, NO_WORLD, 2, 0)
            refusing(self, NoPlace, function, NO_WORLD, 0, 4)

    def test_no_case_comes_ahead_of_no_place(self):
        for function in (where, on_the_way, surely_at):
            for wrong in NEVER_RIGHT:
                refusing(self, NoCase, function, wrong, wrong, wrong)

    def test_each_time_a_new_list(self):
        told_anew(self, where, CASE, 0, 0)
        told_anew(self, where, NO_WORLD, 0, 0)


class OtherTellings(unittest.TestCase):
    def check(self, case, telling):
        truths = {told_true(world, telling) for world in true_worlds(case)}
        self.assertIs(could_be(case, telling), True in truths, (case, telling))
        self.assertIs(must_be(case, telling), False not in truths, (case, telling))
        expected = {(): "none", (True,): "true", (False,): "false", (False, True): "open"}[tuple(sorted(truths))]
        self.assertEqual(verdict(case, telling), expected, (case, telling))

    def test_small_cases(self):
        source = random.Random(33)
        for case in SMALL_CASES:
            for attempt in range(4):
                self.check(case, random_telling(source, case[0][0], case[1], case[2]))

    def test_a_case_may_be_full(self):
        source = random.Random(34)
        for attempt in range(60):
            case = random_case(source, tellings=6)
            self.check(case, random_telling(source, case[0][0], case[1], case[2]))
        for telling in SIX[3]:
            self.check(SIX, telling)

    def test_by_hand(self):
        case = (LINE, 2, 4, (("there", 0, 0, 0, 0), ("there", 0, 2, 4, 4), ("there", 1, 2, 3, 3)))
        self.assertEqual(verdict(case, ("seen", 0, 1, 0, 4)), "true")
        self.assertEqual(verdict(case, ("never", 0, 1, 0, 4)), "false")
        self.assertEqual(verdict(case, ("there", 0, 1, 1, 2)), "open")
        self.assertEqual(verdict(case, ("there", 0, 1, 0, 1)), "false")
        self.assertEqual(verdict(case, ("met", 0, 1, 4, 4)), "open")
        self.assertEqual(verdict(case, ("met", 1, 0, 2, 2)), "false")
        self.assertEqual(verdict(case, ("apart", 1, 0, 2, 2)), "true")
        self.assertEqual(verdict(case, ("there", 0, 0, 0, 0)), "true")

    def test_without_a_world(self):
        for telling in (("seen", 0, 0, 0, 3), ("there", 1, 1, 0, 0), ("met", 0, 1, 0, 3), ("apart", 0, 1, 0, 3)):
            self.assertIs(could_be(NO_WORLD, telling), False)
            self.assertIs(must_be(NO_WORLD, telling), True)
            self.assertEqual(verdict(NO_WORLD, telling), "none")

    def test_without_tellings(self):
        case = ((1, ()), 2, 0, ())
        self.assertEqual(verdict(case, ("met", 0, 1, 0, 0)), "true")
        self.assertEqual(verdict(case, ("never", 0, 0, 0, 0)), "false")

    def test_what_is_no_telling_is_refused(self):
        beyond = [("seen", 2, 0, 0, 6), ("seen", 0, 3, 0, 6), ("met", 0, 0, 0, 6), ("met", 0, 2, 0, 6), TELLINGS,
                  ("seen", 0, 0, 0, 7), ("seen", 0, 0, 4, 3), ("apart", 0, 1, -1, 3), 0]
        for function in (could_be, must_be, verdict):
            for wrong in spoilt(TELLINGS[0]) + spoilt(TELLINGS[3]) + with_other_lengths(TELLINGS[1]) + beyond:
                refusing(self, NoTelling, function, CASE, wrong)
            # Also where there is no world at all.
            refusing(self, NoTelling, function, NO_WORLD, ("seen", 0, 2, 0, 3))

    def test_no_case_comes_ahead_of_no_telling(self):
        for function in (could_be, must_be, verdict):
            for wrong in NEVER_RIGHT:
                refusing(self, NoCase, function, wrong, wrong)
                refusing(self, NoCase, function, wrong, TELLINGS[0])


class Needless(unittest.TestCase):
    def check(self, case):
        tellings = case[3]
        expected = []
        for number, telling in enumerate(tellings):
            less = case[:3] + (tellings[:number] + tellings[number + 1:],)
            if all(told_true(world, telling) for world in true_worlds(less)):
                expected.append(number)
        self.assertEqual(needless(case), expected, case)

    def test_small_cases(self):
        for case in SMALL_CASES:
            self.check(case)

    def test_by_hand(self):
        self.assertEqual(needless((TOWN, 2, 6, ())), [])
        self.assertEqual(needless(CASE), [])
        self.assertEqual(needless((LINE, 1, 4, (("seen", 0, 1, 0, 4), ("there", 0, 0, 0, 0), ("there", 0, 2, 4, 4)))),
                         [0])
        self.assertEqual(needless(((1, ()), 1, 3, (("there", 0, 0, 0, 3),))), [0])

    def test_a_telling_twice(self):
        self.assertEqual(needless((PAIR, 1, 3, (("seen", 0, 0, 0, 1), ("seen", 0, 1, 0, 1), ("seen", 0, 0, 0, 1)))),
                         [0, 2])

    def test_without_a_world(self):
        # Without the one or the other there are worlds, in which it is false; without the third there are none.
        self.assertEqual(needless(NO_WORLD), [])
        self.assertEqual(needless(NO_WORLD[:3] + (NO_WORLD[3] + (("seen", 1, 0, 0, 3),),)), [2])
        self.assertEqual(needless((PAIR, 1, 3, (("seen", 0, 0, 1, 2), ("never", 0, 0, 0, 3)) * 3)), [0, 1, 2, 3, 4, 5])

    def test_each_time_a_new_list(self):
        told_anew(self, needless, ((1, ()), 1, 3, (("there", 0, 0, 0, 3),)))
        told_anew(self, needless, CASE)


if __name__ == "__main__":
    unittest.main()
