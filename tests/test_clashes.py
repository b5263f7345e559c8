"""[5.1], and what [0.3] says of it: which tellings can be true together, and which can't."""

import copy
import itertools
import unittest

from daytellings.clashes import all_clashes, is_clash, least_clash, most_true
from things import CASE, EDGE_CASES, NEVER_RIGHT, TOWN, deep, random_cases, told_anew, true_sets

PAIR = (2, ((0, 1, 1),))
SEEN = ("seen", 0, 0, 0, 3)
NEVER = ("never", 0, 0, 0, 3)
OTHER = ("seen", 1, 1, 0, 3)

# No ways lead anywhere: one is at place 0, the other at place 1, and they meet; each two of these can be true.
THREE = ((3, ()), 2, 3, (("never", 1, 2, 0, 3), ("there", 0, 0, 1, 1), ("there", 1, 1, 1, 1), ("met", 0, 1, 2, 2)))
SMALL_CASES = (list(EDGE_CASES) + random_cases(41, 120) + random_cases(42, 80, tellings=6)
               + random_cases(43, 25, persons=3, greatest_last=2, tellings=6))


def sets_by_going_through(case):
    """All lists of numbers, short ones first, then as they rise: those that can be true, and those that can't."""
    true = true_sets(case)
    can, can_not = [], []
    for length in range(len(case[3]) + 1):
        for numbers in itertools.combinations(range(len(case[3])), length):
            fits = any(set(numbers) <= others for others in true)
            (can if fits else can_not).append(list(numbers))
    return can, can_not


def clashes_by_going_through(case):
    can, can_not = sets_by_going_through(case)
    return [numbers for numbers in can_not
            if all([other for other in numbers if other != number] in can for number in numbers)]


class SmallCases(unittest.TestCase):
    def test_most_true(self):
        for case in SMALL_CASES:
            can, can_not = sets_by_going_through(case)
            longest = max(len(numbers) for numbers in can)
            self.assertEqual(most_true(case), [numbers for numbers in can if len(numbers) == longest][0], case)

    def test_least_clash(self):
        for case in SMALL_CASES:
            can, can_not = sets_by_going_through(case)
            self.assertEqual(least_clash(case), can_not[0] if can_not else None, case)

    def test_all_clashes(self):
        lengths = set()
        for case in SMALL_CASES:
            expected = clashes_by_going_through(case)
            self.assertEqual(all_clashes(case), expected, case)
            lengths |= {len(numbers) for numbers in expected}
        self.assertLessEqual({1, 2, 3}, lengths)

    def test_is_clash(self):
        for case in SMALL_CASES[::2]:
            clashes = clashes_by_going_through(case)
            for length in range(len(case[3]) + 1):
                for numbers in itertools.combinations(range(len(case[3])), length):
                    self.assertIs(is_clash(case, list(numbers)), list(numbers) in clashes, (case, numbers))


class ByHand(unittest.TestCase):
    def check(self, case, clashes, most):
        self.assertEqual(all_clashes(case), clashes)
        self.assertEqual(least_clash(case), clashes[0] if clashes else None)
        self.assertEqual(most_true(case), most)
        for clash in clashes:
            self.assertIs(is_clash(case, clash), True)

    def test_all_can_be_true(self):
        self.check((TOWN, 2, 6, ()), [], [])
        self.check(CASE, [], [0, 1, 2, 3, 4])
        self.check((PAIR, 1, 3, (SEEN,) * 6), [], [0, 1, 2, 3, 4, 5])

    def test_two_that_can_not_both_be_true(self):
        self.check((PAIR, 2, 3, (SEEN, OTHER, NEVER)), [[0, 2]], [0, 1])
        self.check((PAIR, 2, 3, (NEVER, SEEN)), [[0, 1]], [0])
        self.check((PAIR, 2, 0, (("met", 0, 1, 0, 0), ("apart", 1, 0, 0, 0))), [[0, 1]], [0])

    def test_three_of_which_each_two_can_be_true(self):
        self.check(THREE, [[1, 2, 3]], [0, 1, 2])

    def test_one_that_can_not_be_true_by_itself(self):
        self.check(((1, ()), 1, 0, (("never", 0, 0, 0, 0),)), [[0]], [])
        tellings = (("apart", 0, 1, 0, 0), ("seen", 0, 0, 0, 0), ("never", 1, 0, 0, 0))
        self.check(((1, ()), 2, 0, tellings), [[0], [2]], [1])

    def test_a_telling_twice(self):
        self.check((PAIR, 2, 3, (SEEN, NEVER, SEEN, NEVER)), [[0, 1], [0, 3], [1, 2], [2, 3]], [0, 2])
        self.check((PAIR, 2, 3, (NEVER, SEEN, SEEN)), [[0, 1], [0, 2]], [1, 2])

    def test_short_ones_come_first(self):
        case = THREE[:3] + (THREE[3] + (("seen", 1, 2, 0, 3),),)
        self.check(case, [[0, 4], [2, 4], [1, 2, 3], [1, 3, 4]], [0, 1, 2])
        late = ((1, ()), 2, 0, (("seen", 0, 0, 0, 0), ("seen", 1, 0, 0, 0), ("apart", 0, 1, 0, 0)))
        self.check(late, [[2]], [0, 1])

    def test_six_of_one_clash(self):
        # Each five of six moments can be spent at place 0, but not all, if place 1 is seen as well.
        tellings = tuple(("there", 0, 0, moment, moment) for moment in range(5)) + (("seen", 0, 1, 0, 4),)
        self.check((PAIR, 1, 4, tellings), [[0, 1, 2, 3, 4, 5]], [0, 1, 2, 3, 4])


class IsClash(unittest.TestCase):
    def fails(self, case, *things):
        for thing in things:
            self.assertIs(is_clash(case, thing), False, thing)

    def test_lists_that_can_be_true(self):
        self.fails(THREE, [], [0], [3], [1, 2], [2, 3], [0, 1, 2])

    def test_one_telling_too_many(self):
        self.assertIs(is_clash(THREE, [1, 2, 3]), True)
        self.fails(THREE, [0, 1, 2, 3])
        self.fails((PAIR, 2, 3, (SEEN, OTHER, NEVER)), [0, 1, 2])

    def test_it_rises_with_none_twice(self):
        self.fails(THREE, [1, 3, 2], [3, 2, 1], [2, 1, 3], [1, 1, 2, 3], [1, 2, 3, 3], [1, 2, 2, 3])

    def test_numbers_that_no_telling_has(self):
        self.fails(THREE, [1, 2, 4], [1, 2, 3, 4], [-1, 1, 2, 3], [-3, -2, -1], [4], [-1], [10 ** 20])
        self.fails((PAIR, 1, 3, ()), [], [0], [-1])

    def test_lists_alone(self):
        self.fails(THREE, (1, 2, 3), "123", {1: 1}, 1, [[1, 2, 3]], [(1, 2, 3)])

    def test_truths_are_no_numbers(self):
        case = (PAIR, 1, 3, (SEEN, NEVER))
        self.assertIs(is_clash(case, [0, 1]), True)
        self.fails(case, [False, 1], [0, True], [False, True])

    def test_any_thing_is_taken(self):
        self.fails(THREE, 0, 1, *NEVER_RIGHT)
        self.fails(THREE, *[[odd] for odd in NEVER_RIGHT])
        self.fails(THREE, *[[1, 2, odd] for odd in NEVER_RIGHT])
        self.fails(THREE, *[[odd, 2, 3] for odd in NEVER_RIGHT])
        self.fails(THREE, deep(list, 12), deep(tuple, 12))

    def test_what_is_handed_in_is_not_changed(self):
        for thing in ([1, 2, 3], [3, 2, 1], [[1], 2]):
            before = copy.deepcopy(thing)
            is_clash(THREE, thing)
            self.assertEqual(thing, before)


class NewLists(unittest.TestCase):
    def test_each_time(self):
        for function in (most_true, least_clash, all_clashes):
            told_anew(self, function, (PAIR, 2, 3, (SEEN, NEVER, SEEN, NEVER)))
            told_anew(self, function, THREE)
            told_anew(self, function, CASE)
            told_anew(self, function, (PAIR, 2, 3, ()))


if __name__ == "__main__":
    unittest.main()
