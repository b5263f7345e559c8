"""[5.2], and what [0.3] says of it: persons who are tied, and cases of them alone."""

import unittest

from daytellings.cases import is_case
from daytellings.clashes import alone, tied
from things import CASE, TOWN, random_cases, told_anew


def met(*pairs):
    """A case of three persons with these pairs."""
    tellings = [(("met", "apart")[number % 2], one, other, 0, 6) for number, (one, other) in enumerate(pairs)]
    return (TOWN, 3, 6, tuple(tellings))


def tied_by_walking(case):
    """From each person along all tellings of met and apart, till nobody new is found."""
    pairs = [telling[1:3] for telling in case[3] if telling[0] in ("met", "apart")]
    groups = set()
    for person in range(case[1]):
        group = {person}
        for turn in range(case[1]):
            for pair in pairs:
                if group & set(pair):
                    group |= set(pair)
        groups.add(tuple(sorted(group)))
    return [list(group) for group in sorted(groups)]


class Tied(unittest.TestCase):
    def test_nobody_is(self):
        self.assertEqual(tied((TOWN, 1, 6, ())), [[0]])
        self.assertEqual(tied((TOWN, 2, 6, ())), [[0], [1]])
        self.assertEqual(tied(met()), [[0], [1], [2]])

    def test_two_are(self):
        self.assertEqual(tied(CASE), [[0, 1]])
        self.assertEqual(tied(met((0, 1))), [[0, 1], [2]])
        self.assertEqual(tied(met((2, 0))), [[0, 2], [1]])
        self.assertEqual(tied(met((2, 1))), [[0], [1, 2]])
        self.assertEqual(tied(met((2, 1), (1, 2))), [[0], [1, 2]])

    def test_over_a_third_one(self):
        for pairs in (((0, 1), (1, 2)), ((2, 1), (0, 1)), ((0, 2), (1, 2)), ((2, 0), (0, 1)), ((1, 2), (2, 0))):
            self.assertEqual(tied(met(*pairs)), [[0, 1, 2]], pairs)
        self.assertEqual(tied(met((0, 1), (1, 2), (2, 0))), [[0, 1, 2]])

    def test_apart_ties_too_and_places_do_not(self):
        self.assertEqual(tied((TOWN, 2, 6, (("apart", 1, 0, 3, 3),))), [[0, 1]])
        for word in ("there", "seen", "never"):
            self.assertEqual(tied((TOWN, 3, 6, ((word, 0, 1, 0, 0), (word, 1, 0, 0, 0), (word, 2, 1, 0, 0)))),
                             [[0], [1], [2]])

    def test_random_cases(self):
        for case in random_cases(51, 300, persons=3):
            self.assertEqual(tied(case), tied_by_walking(case), case)

    def test_each_time_new_lists(self):
        told_anew(self, tied, CASE)
        told_anew(self, tied, met())


class Alone(unittest.TestCase):
    def test_one_person(self):
        tellings = (("seen", 2, 1, 0, 6), ("met", 0, 1, 2, 3), ("there", 1, 2, 5, 5), ("never", 2, 2, 1, 1))
        self.assertEqual(alone((TOWN, 3, 6, tellings), [2]),
                         (TOWN, 1, 6, (("seen", 0, 1, 0, 6), ("never", 0, 2, 1, 1))))

    def test_two_persons_are_numbered_anew(self):
        tellings = (("apart", 2, 1, 2, 3), ("seen", 0, 1, 0, 6), ("seen", 2, 2, 0, 6), ("met", 1, 2, 0, 0))
        self.assertEqual(alone((TOWN, 3, 6, tellings), [1, 2]),
                         (TOWN, 2, 6, (("apart", 1, 0, 2, 3), ("seen", 1, 2, 0, 6), ("met", 0, 1, 0, 0))))
        tellings = (("apart", 2, 0, 2, 3), ("never", 1, 1, 0, 6), ("there", 0, 2, 1, 6))
        self.assertEqual(alone((TOWN, 3, 6, tellings), [0, 2]),
                         (TOWN, 2, 6, (("apart", 1, 0, 2, 3), ("there", 0, 2, 1, 6))))

    def test_places_keep_their_numbers(self):
        self.assertEqual(alone((TOWN, 2, 6, (("there", 1, 1, 0, 0), ("seen", 1, 2, 0, 6))), [1])[3],
                         (("there", 0, 1, 0, 0), ("seen", 0, 2, 0, 6)))

    def test_all_persons(self):
        self.assertEqual(alone(CASE, [0, 1]), CASE)

    def test_without_tellings(self):
        self.assertEqual(alone(met((0, 1)), [2]), (TOWN, 1, 6, ()))

    def test_it_is_a_case_and_no_telling_is_lost(self):
        for case in random_cases(52, 100, persons=3):
            parts = [alone(case, group) for group in tied(case)]
            for part, group in zip(parts, tied(case)):
                self.assertIs(is_case(part), True)
                self.assertEqual(part[:3], (case[0], len(group), case[2]))
                self.assertEqual(len(tied(part)), 1)
            self.assertEqual(sum(len(part[3]) for part in parts), len(case[3]))

    def test_the_list_is_neither_changed_nor_kept(self):
        group = [0, 1]
        part = alone(CASE, group)
        self.assertEqual(group, [0, 1])
        group.clear()
        self.assertEqual(part, CASE)


if __name__ == "__main__":
    unittest.main()
