"""[9.1], and what [0.3] says of it: what tellings ask, how they part worlds, and which answers there are."""

import copy
import random
import unittest

from daytellings.asking import answers, best_question, parts, tells_all
from daytellings.errors import NoCase, NoTelling
from things import (CASE, EDGE_CASES, NEVER_RIGHT, TELLINGS, WORDS, random_cases, random_telling, refusing, spoilt,
                    told_anew, told_true, true_worlds, with_other_lengths)

PAIR = (2, ((0, 1, 1),))
NO_WORLD = (PAIR, 2, 3, (("seen", 0, 0, 1, 2), ("never", 0, 0, 0, 3)))
NO_WORLD_OF_ANOTHER = (PAIR, 3, 3, (("seen", 2, 0, 1, 2), ("never", 2, 0, 0, 3)))
SIX = (PAIR, 2, 3, (("seen", 0, 0, 0, 3), ("met", 0, 1, 1, 2), ("there", 1, 1, 1, 1), ("never", 0, 1, 3, 3),
                    ("apart", 0, 1, 3, 3), ("seen", 1, 1, 0, 3)))
ONE_DAY = (PAIR, 1, 1, ())
SMALL_CASES = (list(EDGE_CASES) + [NO_WORLD, NO_WORLD_OF_ANOTHER, SIX] + random_cases(101, 150)
               + random_cases(102, 30, persons=3, greatest_last=2))
ASKERS = (answers, tells_all, best_question)


def asked_of(source, case, number):
    return [random_telling(source, case[0][0], case[1], case[2]) for count in range(number)]


def one_of_each_word(case):
    return [(word, 0, 1 if word in ("met", "apart") else 0, 0, case[2]) for word in WORDS]


def answers_by_worlds(case, some):
    return [tuple(told_true(world, telling) for telling in some) for world in true_worlds(case)]


def parts_by_worlds(case, telling):
    truths = [told_true(world, telling) for world in true_worlds(case)]
    return (truths.count(True), truths.count(False))


class Parts(unittest.TestCase):
    def test_small_cases(self):
        source = random.Random(103)
        for case in SMALL_CASES:
            for telling in asked_of(source, case, 6):
                self.assertEqual(parts(case, telling), parts_by_worlds(case, telling), (case, telling))

    def test_by_hand(self):
        self.assertEqual(parts(ONE_DAY, ("seen", 0, 0, 0, 1)), (3, 1))
        self.assertEqual(parts(ONE_DAY, ("never", 0, 0, 0, 1)), (1, 3))
        self.assertEqual(parts(ONE_DAY, ("there", 0, 0, 0, 1)), (1, 3))

    def test_true_in_all_in_none_and_no_world(self):
        case = (PAIR, 1, 1, (("there", 0, 0, 0, 0),))
        self.assertEqual(parts(case, ("seen", 0, 0, 0, 1)), (2, 0))
        self.assertEqual(parts(case, ("never", 0, 0, 0, 1)), (0, 2))
        self.assertEqual(parts(NO_WORLD, ("seen", 0, 0, 0, 1)), (0, 0))

    def test_a_full_case(self):
        for telling in one_of_each_word(SIX) + list(SIX[3]):
            self.assertEqual(parts(SIX, telling), parts_by_worlds(SIX, telling))

    def test_no_telling(self):
        for wrong in list(NEVER_RIGHT) + spoilt(TELLINGS[0]) + with_other_lengths(TELLINGS[0]) + [
                [TELLINGS[0]], (TELLINGS[0],), ("there", 0, 3, 0, 0), ("met", 0, 0, 0, 0), ("there", 0, 0, 0, 7)]:
            refusing(self, NoTelling, parts, CASE, wrong)


class Answers(unittest.TestCase):
    def check(self, case, some):
        found = answers_by_worlds(case, some)
        told = answers(case, some)
        self.assertEqual(told, sorted(set(found)), (case, some))
        self.assertTrue(all(type(truth) is bool for answer in told for truth in answer), (case, some))
        self.assertIs(tells_all(case, some), len(set(found)) == len(found), (case, some))

    def test_small_cases(self):
        source = random.Random(104)
        for case in SMALL_CASES:
            for number in (1, 2, 3, 6):
                self.check(case, asked_of(source, case, number))

    def test_one_of_each_word(self):
        for case in SMALL_CASES:
            if case[1] > 1:
                self.check(case, one_of_each_word(case))
            self.check(case, one_of_each_word(case)[:3])

    def test_the_tellings_of_the_case_itself(self):
        for case in SMALL_CASES:
            self.check(case, case[3])
            expected = [(True,) * len(case[3])] if true_worlds(case) else []
            self.assertEqual(answers(case, case[3]), expected)

    def test_none_asked(self):
        for none in ([], ()):
            self.assertEqual(answers(CASE, none), [()])
            self.assertEqual(answers(NO_WORLD, none), [])
            self.assertEqual(answers(NO_WORLD_OF_ANOTHER, none), [])
            self.assertIs(tells_all(CASE, none), False)
            self.assertIs(tells_all(NO_WORLD, none), True)
            self.assertIs(tells_all(((1, ()), 3, 9, ()), none), True)

    def test_by_hand(self):
        self.assertEqual(answers(ONE_DAY, [("seen", 0, 0, 0, 0)]), [(False,), (True,)])
        self.assertIs(tells_all(ONE_DAY, [("seen", 0, 0, 0, 0)]), False)
        some = [("seen", 0, 0, 0, 0), ("seen", 0, 0, 1, 1)]
        self.assertEqual(answers(ONE_DAY, some), [(False, False), (False, True), (True, False), (True, True)])
        self.assertIs(tells_all(ONE_DAY, some), True)
        some = [("there", 0, 0, 0, 1), ("never", 0, 0, 0, 1)]
        self.assertEqual(answers(ONE_DAY, some), [(False, False), (False, True), (True, False)])
        self.assertIs(tells_all(ONE_DAY, some), False)

    def test_a_telling_asked_twice(self):
        telling = ("seen", 0, 0, 1, 1)
        self.assertEqual(answers(ONE_DAY, [telling, telling]), [(False, False), (True, True)])
        self.assertEqual(answers(ONE_DAY, [telling] * 6), [(False,) * 6, (True,) * 6])
        self.assertIs(tells_all(ONE_DAY, [telling, telling]), False)

    def test_no_world(self):
        for case in (NO_WORLD, NO_WORLD_OF_ANOTHER):
            self.assertEqual(answers(case, one_of_each_word(case)), [])
            self.assertIs(tells_all(case, one_of_each_word(case)), True)

    def test_a_full_case_is_asked_for_six_more(self):
        source = random.Random(105)
        for case in [SIX] + random_cases(106, 30, tellings=6):
            self.check(case, asked_of(source, case, 6))

    def test_all_answers_of_six(self):
        case = ((2, ((0, 1, 1),)), 2, 2, ())
        some = [("there", who, 0, moment, moment) for who in (0, 1) for moment in (0, 1, 2)]
        self.assertEqual(len(answers(case, some)), 64)
        self.assertIs(tells_all(case, some), True)
        self.assertIs(tells_all(case, some[:5]), False)

    def test_lists_and_tuples(self):
        for case in SMALL_CASES[::5]:
            some = one_of_each_word(case)[:3]
            for function in ASKERS:
                self.assertEqual(function(case, some), function(case, tuple(some)))

    def test_new_lists_and_what_is_handed_in_stays(self):
        told_anew(self, answers, CASE, list(TELLINGS))
        told_anew(self, answers, CASE, [])
        told_anew(self, answers, NO_WORLD, [("seen", 0, 0, 0, 0)])
        some = list(TELLINGS)
        for function in ASKERS:
            function(CASE, some)
            self.assertEqual(some, list(TELLINGS))


class BestQuestions(unittest.TestCase):
    def test_small_cases(self):
        source = random.Random(107)
        for case in SMALL_CASES:
            for number in (1, 2, 4, 6):
                some = asked_of(source, case, number)
                lesser = [min(parts_by_worlds(case, telling)) for telling in some]
                best = [number for number, count in enumerate(lesser) if count == max(lesser)][0]
                self.assertEqual(best_question(case, some), best, (case, some))

    def test_none_asked(self):
        for case in (CASE, NO_WORLD):
            self.assertIsNone(best_question(case, []))
            self.assertIsNone(best_question(case, ()))

    def test_by_hand(self):
        some = [("there", 0, 0, 0, 1), ("seen", 0, 0, 0, 0), ("never", 0, 0, 0, 1), ("there", 0, 1, 1, 1)]
        self.assertEqual(best_question(ONE_DAY, some), 1)
        self.assertEqual(best_question(ONE_DAY, some[:1]), 0)
        self.assertEqual(best_question(ONE_DAY, some[::-1]), 0)

    def test_of_those_that_are_equally_good_the_first(self):
        sure = ("seen", 0, 0, 0, 1)
        half = ("there", 0, 0, 0, 0)
        case = (PAIR, 1, 1, (sure,))
        self.assertEqual(best_question(ONE_DAY, [half, half]), 0)
        self.assertEqual(best_question(ONE_DAY, [sure, half, half]), 1)
        self.assertEqual(best_question(case, [sure, sure]), 0)
        self.assertEqual(best_question(ONE_DAY, [("there", 0, 0, 0, 1), ("never", 0, 0, 0, 1)]), 0)

    def test_no_world(self):
        self.assertEqual(best_question(NO_WORLD, one_of_each_word(NO_WORLD)), 0)


class Refusals(unittest.TestCase):
    def test_what_are_no_tellings(self):
        telling = TELLINGS[0]
        wrong = [thing for thing in NEVER_RIGHT if thing != []]
        wrong += [telling, "there", 0, 1, [[telling]], [list(telling)], (None,), [telling, None]]
        wrong += [(telling, telling[:4]), (telling, telling + (0,))]
        wrong += [[other] for other in NEVER_RIGHT] + [(telling, other) for other in spoilt(telling)]
        wrong += [[("there", 2, 0, 0, 0)], [("there", 0, 3, 0, 0)], [telling, ("met", 1, 1, 0, 0)], CASE]
        for function in ASKERS:
            for thing in wrong:
                with self.subTest(function=function.__name__, thing=thing):
                    refusing(self, NoTelling, function, CASE, thing)
                    refusing(self, NoTelling, function, CASE[:3] + ((),), thing)

    def test_seven_asked(self):
        for function in ASKERS:
            function(CASE, [TELLINGS[1]] * 6)
            function(CASE, (TELLINGS[1],) * 6)
            for number in (7, 8, 20):
                refusing(self, NoTelling, function, CASE, [TELLINGS[1]] * number)
                refusing(self, NoTelling, function, CASE, (TELLINGS[1],) * number)

    def test_no_case_comes_first(self):
        for function in ASKERS + (parts,):
            for thing in (None, [None], [TELLINGS[1]] * 7):
                refusing(self, NoCase, function, list(CASE), thing)

    def test_a_refusal_changes_nothing(self):
        some = [TELLINGS[0], [None, ["x"]], TELLINGS[1]]
        before = copy.deepcopy(some)
        for function in ASKERS:
            refusing(self, NoTelling, function, CASE, some)
        self.assertEqual(some, before)


if __name__ == "__main__":
    unittest.main()
