"""[6.1], and what [0.3] says of it: desks that take tellings, drop them, and take back what they did."""

import random
import unittest

from daytellings.desks import Desk
from daytellings.errors import NoCase, Nothing, NoTelling
from things import (CASE, EDGE_CASES, NEVER_RIGHT, TELLINGS, random_case, random_cases, random_telling, refusing,
                    spoilt, told_true, true_worlds, with_other_lengths)

PAIR = (2, ((0, 1, 1),))
SIX = (PAIR, 2, 3, (("seen", 0, 0, 0, 3), ("met", 0, 1, 1, 2), ("there", 1, 1, 1, 1), ("never", 0, 1, 3, 3),
                    ("apart", 0, 1, 3, 3), ("seen", 1, 1, 0, 3)))
EMPTY = (PAIR, 2, 3, ())
NO_WORLD = (PAIR, 2, 3, (("seen", 0, 0, 1, 2), ("never", 0, 0, 0, 3)))
STAYS = ("there", 0, 0, 0, 3)
SEEN = ("seen", 0, 0, 1, 2)
GONE = ("seen", 0, 1, 1, 2)
NO_NUMBERS = (True, False, None, "", "0", [], [0], (0,), (), -1, -6, 10 ** 20)


def verdict_by_worlds(case, telling):
    truths = {told_true(world, telling) for world in true_worlds(case)}
    return {(): "none", (True,): "true", (False,): "false"}.get(tuple(truths), "open")


def with_these(case, tellings):
    return case[:3] + (tuple(tellings),)


class Taking(unittest.TestCase):
    def test_a_desk_begins_with_its_case(self):
        for case in (CASE, SIX, EMPTY, NO_WORLD) + EDGE_CASES:
            desk = Desk(case)
            self.assertEqual(desk.case(), case)
            self.assertEqual(desk.many(), 0)

    def test_take_tells_the_verdict_ahead_of_it(self):
        desk = Desk(EMPTY)
        self.assertEqual(desk.take(STAYS), "open")
        self.assertEqual(desk.take(SEEN), "true")
        self.assertEqual(desk.take(GONE), "false")
        self.assertEqual(desk.take(GONE), "none")
        self.assertEqual(desk.take(STAYS), "none")
        self.assertEqual(desk.case(), with_these(EMPTY, [STAYS, SEEN, GONE, GONE, STAYS]))
        self.assertEqual(desk.many(), 5)

    def test_a_telling_taken_twice(self):
        desk = Desk(EMPTY)
        self.assertEqual([desk.take(SEEN), desk.take(SEEN)], ["open", "true"])
        self.assertEqual(desk.case(), with_these(EMPTY, [SEEN, SEEN]))

    def test_behind_what_leaves_no_world(self):
        desk = Desk(NO_WORLD)
        self.assertEqual(desk.take(SEEN), "none")
        self.assertEqual(desk.case(), with_these(NO_WORLD, NO_WORLD[3] + (SEEN,)))

    def test_the_verdict_is_that_of_all_worlds(self):
        source = random.Random(71)
        for case in random_cases(72, 60, tellings=0) + random_cases(73, 60):
            desk = Desk(case)
            while len(desk.case()[3]) < 6:
                ahead = desk.case()
                telling = random_telling(source, case[0][0], case[1], case[2])
                self.assertEqual(desk.take(telling), verdict_by_worlds(ahead, telling), (ahead, telling))
                self.assertEqual(desk.case(), with_these(ahead, ahead[3] + (telling,)))

    def test_no_telling_is_refused(self):
        wrong = list(NEVER_RIGHT) + spoilt(TELLINGS[0]) + spoilt(TELLINGS[3]) + with_other_lengths(TELLINGS[0])
        wrong += [("there", 2, 0, 0, 0), ("there", 0, 3, 0, 0), ("there", 0, 0, 0, 7), ("there", 0, 0, 2, 1),
                  ("met", 0, 0, 0, 0), ("met", 0, 2, 0, 0), CASE, TELLINGS, list(TELLINGS[0])]
        desk = Desk(CASE)
        for telling in wrong:
            with self.subTest(telling=telling):
                refusing(self, NoTelling, desk.take, telling)
        self.assertEqual(desk.case(), CASE)
        self.assertEqual(desk.many(), 0)

    def test_a_seventh_telling_is_refused(self):
        desk = Desk(SIX)
        refusing(self, NoCase, desk.take, SEEN)
        refusing(self, NoCase, desk.take, SIX[3][0])
        self.assertEqual((desk.case(), desk.many()), (SIX, 0))
        refusing(self, Nothing, desk.undo)

    def test_no_telling_comes_ahead_of_a_seventh(self):
        desk = Desk(SIX)
        for telling in NEVER_RIGHT + (("there", 0, 0, 0, 4), ("met", 1, 1, 0, 0)):
            refusing(self, NoTelling, desk.take, telling)
        self.assertEqual((desk.case(), desk.many()), (SIX, 0))

    def test_a_sixth_is_taken(self):
        desk = Desk(with_these(SIX, SIX[3][:5]))
        self.assertEqual(desk.take(SIX[3][5]), verdict_by_worlds(with_these(SIX, SIX[3][:5]), SIX[3][5]))
        self.assertEqual(desk.case(), SIX)
        refusing(self, NoCase, desk.take, SEEN)
        self.assertEqual(desk.many(), 1)


class Dropping(unittest.TestCase):
    def test_drop_of_each_number(self):
        for number in range(6):
            desk = Desk(SIX)
            self.assertIsNone(desk.drop(number))
            left = [telling for place, telling in enumerate(SIX[3]) if place != number]
            self.assertEqual(desk.case(), with_these(SIX, left))
            self.assertEqual(desk.many(), 1)

    def test_the_first_till_there_is_none(self):
        desk = Desk(SIX)
        for count in range(6):
            desk.drop(0)
        self.assertEqual(desk.case(), with_these(SIX, ()))
        refusing(self, NoTelling, desk.drop, 0)
        self.assertEqual(desk.many(), 6)

    def test_one_of_two_that_are_equal(self):
        desk = Desk(with_these(EMPTY, [SEEN, GONE, SEEN]))
        desk.drop(2)
        self.assertEqual(desk.case(), with_these(EMPTY, [SEEN, GONE]))

    def test_what_is_no_number_of_a_telling_is_refused(self):
        for case in (SIX, EMPTY, NO_WORLD):
            desk = Desk(case)
            for number in NO_NUMBERS + NEVER_RIGHT + (len(case[3]), len(case[3]) + 1):
                with self.subTest(case=case, number=number):
                    refusing(self, NoTelling, desk.drop, number)
            self.assertEqual((desk.case(), desk.many()), (case, 0))

    def test_a_full_desk_takes_again_behind_a_drop(self):
        desk = Desk(SIX)
        desk.drop(5)
        desk.take(SEEN)
        self.assertEqual(desk.case(), with_these(SIX, SIX[3][:5] + (SEEN,)))


class Undoing(unittest.TestCase):
    def test_behind_take_and_behind_drop(self):
        desk = Desk(NO_WORLD)
        desk.take(SEEN)
        desk.drop(1)
        self.assertIsNone(desk.undo())
        self.assertEqual((desk.case(), desk.many()), (with_these(NO_WORLD, NO_WORLD[3] + (SEEN,)), 1))
        self.assertIsNone(desk.undo())
        self.assertEqual((desk.case(), desk.many()), (NO_WORLD, 0))

    def test_nothing_is_left_and_once_more(self):
        desk = Desk(EMPTY)
        refusing(self, Nothing, desk.undo)
        desk.take(SEEN)
        desk.undo()
        refusing(self, Nothing, desk.undo)
        refusing(self, Nothing, desk.undo)
        self.assertEqual((desk.case(), desk.many()), (EMPTY, 0))
        desk.take(GONE)
        self.assertEqual((desk.case(), desk.many()), (with_these(EMPTY, [GONE]), 1))

    def test_refusals_are_not_taken_back(self):
        desk = Desk(with_these(SIX, SIX[3][:5]))
        desk.take(SEEN)
        refusing(self, NoCase, desk.take, SEEN)
        refusing(self, NoTelling, desk.take, None)
        refusing(self, NoTelling, desk.drop, 6)
        refusing(self, NoTelling, desk.drop, True)
        self.assertEqual(desk.many(), 1)
        desk.undo()
        self.assertEqual((desk.case(), desk.many()), (with_these(SIX, SIX[3][:5]), 0))

    def test_an_undo_is_not_taken_back_itself(self):
        desk = Desk(EMPTY)
        desk.take(SEEN)
        desk.take(GONE)
        desk.undo()
        desk.undo()
        self.assertEqual((desk.case(), desk.many()), (EMPTY, 0))

    def test_a_step_behind_an_undo(self):
        desk = Desk(EMPTY)
        desk.take(SEEN)
        desk.take(GONE)
        desk.undo()
        self.assertEqual(desk.take(SEEN), "true")
        self.assertEqual(desk.many(), 2)
        desk.undo()
        self.assertEqual(desk.case(), with_these(EMPTY, [SEEN]))


class Steps(unittest.TestCase):
    def step(self, source, desk, model):
        tellings = model[-1]
        case = with_these(desk.case(), tellings)
        kind = source.choice(("take", "take", "drop", "undo"))
        if kind == "undo":
            if len(model) == 1:
                refusing(self, Nothing, desk.undo)
            else:
                desk.undo()
                model.pop()
        elif kind == "drop":
            number = source.randint(-1, 6)
            if 0 <= number < len(tellings):
                desk.drop(number)
                model.append(tellings[:number] + tellings[number + 1:])
            else:
                refusing(self, NoTelling, desk.drop, number)
        else:
            telling = random_telling(source, case[0][0], case[1], case[2])
            if len(tellings) < 6:
                self.assertEqual(desk.take(telling), verdict_by_worlds(case, telling))
                model.append(tellings + [telling])
            else:
                refusing(self, NoCase, desk.take, telling)

    def test_many_steps(self):
        source = random.Random(74)
        for attempt in range(25):
            case = random_case(source)
            desk = Desk(case)
            model = [list(case[3])]
            for count in range(25):
                self.step(source, desk, model)
                self.assertEqual(desk.case(), with_these(case, model[-1]))
                self.assertEqual(desk.many(), len(model) - 1)

    def test_two_desks_of_one_case(self):
        one = Desk(EMPTY)
        other = Desk(EMPTY)
        one.take(SEEN)
        self.assertEqual((other.case(), other.many()), (EMPTY, 0))
        other.take(GONE)
        other.take(STAYS)
        one.undo()
        self.assertEqual((one.case(), one.many()), (EMPTY, 0))
        self.assertEqual((other.case(), other.many()), (with_these(EMPTY, [GONE, STAYS]), 2))

    def test_no_desk_of_what_is_no_case(self):
        for wrong in list(NEVER_RIGHT) + [list(CASE), CASE[:3], with_these(EMPTY, [SEEN] * 7)] + spoilt(SIX):
            refusing(self, NoCase, Desk, wrong)


if __name__ == "__main__":
    unittest.main()
