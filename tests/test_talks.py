"""[12.1], [12.2], and what [0.3] says of them: talks, in which tellings are kept or put aside, back and forth."""

import random
import unittest

from daytellings.errors import NoCase, Nothing, NoTelling
from daytellings.talks import Talk
from things import (CASE, EDGE_CASES, NEVER_RIGHT, TELLINGS, random_case, random_telling, refusing, spoilt,
                    true_worlds, with_other_lengths)

PAIR = (2, ((0, 1, 1),))
EMPTY = (PAIR, 2, 3, ())
NO_WORLD = (PAIR, 2, 3, (("seen", 0, 0, 1, 2), ("never", 0, 0, 0, 3)))
STAYS = ("there", 0, 0, 0, 3)
GONE = ("seen", 0, 1, 1, 2)
GONE_LATE = ("seen", 0, 1, 3, 3)
AWAY = ("never", 0, 0, 0, 0)
MEETS = ("met", 0, 1, 0, 3)
FREE = ("seen", 1, 0, 0, 3)
NO_NUMBERS = (True, False, None, "", "0", [], [0], (0,), (), -1, 10 ** 20)


def with_these(case, tellings):
    return case[:3] + (tuple(tellings),)


def full_talk():
    talk = Talk(with_these(EMPTY, [STAYS]))
    for count in range(5):
        talk.hear(FREE)
    return talk


def shown(talk):
    return (talk.case(), talk.aside(), talk.counts())


class Model:
    """A talk, by going through all worlds, which keeps a copy of all that it was."""

    def __init__(self, case):
        self.frame = case
        self.kept = list(case[3])
        self.aside = []
        self.past = []
        self.future = []

    def fits(self, telling):
        return len(self.kept) < 6 and bool(true_worlds(with_these(self.frame, self.kept + [telling])))

    def put(self, telling):
        fits = self.fits(telling)
        (self.kept if fits else self.aside).append(telling)
        return fits

    def begin(self, name):
        self.past.append((name, list(self.kept), list(self.aside)))
        self.future.clear()

    def hear(self, telling):
        self.begin("hear")
        return "kept" if self.put(telling) else "aside"

    def let_go(self, number):
        self.begin("let_go")
        del self.kept[number]
        waiting, self.aside = self.aside, []
        return sum([self.put(telling) for telling in waiting])

    def move(self, source, target):
        name, kept, aside = source.pop()
        target.append((name, self.kept, self.aside))
        self.kept, self.aside = list(kept), list(aside)
        return name

    def shown(self):
        return (with_these(self.frame, self.kept), self.aside, (len(self.past), len(self.future)))

    def twin(self):
        other = Model(self.frame)
        other.kept, other.aside = list(self.kept), list(self.aside)
        other.past, other.future = list(self.past), list(self.future)
        return other


class Hearing(unittest.TestCase):
    def test_a_talk_begins_with_its_case(self):
        self.assertEqual(shown(Talk(CASE)), (CASE, [], (0, 0)))
        for case in EDGE_CASES:
            if true_worlds(case):
                self.assertEqual(shown(Talk(case)), (case, [], (0, 0)))
            else:
                refusing(self, NoCase, Talk, case)

    def test_a_case_that_can_not_be(self):
        refusing(self, NoCase, Talk, NO_WORLD)
        refusing(self, NoCase, Talk, ((1, ()), 1, 0, (("never", 0, 0, 0, 0),)))

    def test_no_case(self):
        for wrong in list(NEVER_RIGHT) + [list(CASE), CASE[:3], with_these(EMPTY, [FREE] * 7)] + spoilt(CASE):
            refusing(self, NoCase, Talk, wrong)

    def test_kept_and_aside(self):
        talk = Talk(EMPTY)
        self.assertEqual(talk.hear(STAYS), "kept")
        self.assertEqual(talk.hear(GONE), "aside")
        self.assertEqual(talk.hear(MEETS), "kept")
        self.assertEqual(talk.hear(AWAY), "aside")
        self.assertEqual(shown(talk), (with_these(EMPTY, [STAYS, MEETS]), [GONE, AWAY], (4, 0)))

    def test_a_telling_that_is_kept_already(self):
        talk = Talk(with_these(EMPTY, [STAYS]))
        self.assertEqual(talk.hear(STAYS), "kept")
        self.assertEqual(talk.case(), with_these(EMPTY, [STAYS, STAYS]))

    def test_a_telling_that_is_aside_already(self):
        talk = Talk(with_these(EMPTY, [STAYS]))
        self.assertEqual([talk.hear(GONE), talk.hear(GONE)], ["aside", "aside"])
        self.assertEqual(talk.aside(), [GONE, GONE])

    def test_when_six_are_kept(self):
        talk = full_talk()
        self.assertEqual(len(talk.case()[3]), 6)
        self.assertEqual(talk.hear(FREE), "aside")
        self.assertEqual(talk.hear(STAYS), "aside")
        self.assertEqual(talk.hear(GONE), "aside")
        self.assertEqual(shown(talk), (with_these(EMPTY, [STAYS] + [FREE] * 5), [FREE, STAYS, GONE], (8, 0)))
        six = Talk(with_these(EMPTY, [FREE] * 6))
        self.assertEqual(six.hear(FREE), "aside")

    def test_no_telling(self):
        wrong = list(NEVER_RIGHT) + spoilt(TELLINGS[0]) + spoilt(TELLINGS[3]) + with_other_lengths(TELLINGS[0])
        wrong += [("there", 2, 0, 0, 0), ("there", 0, 2, 0, 0), ("met", 1, 1, 0, 0), ("seen", 0, 0, 0, 4), [STAYS]]
        for talk in (Talk(EMPTY), full_talk()):
            talk.hear(STAYS)
            talk.back()
            before = shown(talk)
            for telling in wrong:
                with self.subTest(telling=telling):
                    refusing(self, NoTelling, talk.hear, telling)
            self.assertEqual(shown(talk), before)
            self.assertEqual(talk.forth(), "hear")

    def test_asides_list_may_be_changed(self):
        talk = Talk(with_these(EMPTY, [STAYS]))
        talk.hear(GONE)
        told = talk.aside()
        told.clear()
        told.append(None)
        self.assertEqual(talk.aside(), [GONE])
        self.assertEqual(talk.let_go(0), 1)
        talk.aside().append(AWAY)
        self.assertEqual(talk.aside(), [])
        talk.back()
        self.assertEqual(talk.aside(), [GONE])


class LettingGo(unittest.TestCase):
    def test_several_of_those_aside_are_kept_in_their_order(self):
        talk = Talk(with_these(EMPTY, [FREE, STAYS]))
        for telling in (GONE, AWAY, GONE_LATE):
            self.assertEqual(talk.hear(telling), "aside")
        self.assertEqual(talk.let_go(1), 3)
        self.assertEqual(shown(talk), (with_these(EMPTY, [FREE, GONE, AWAY, GONE_LATE]), [], (4, 0)))

    def test_some_of_those_aside_stay_there_in_their_order(self):
        at_first = ("there", 0, 0, 0, 0)
        never_back = ("never", 0, 0, 0, 3)
        talk = Talk(with_these(EMPTY, [STAYS, at_first]))
        for telling in (AWAY, GONE, never_back, GONE_LATE):
            talk.hear(telling)
        self.assertEqual(talk.let_go(0), 2)
        self.assertEqual(talk.case(), with_these(EMPTY, [at_first, GONE, GONE_LATE]))
        self.assertEqual(talk.aside(), [AWAY, never_back])
        self.assertEqual(talk.let_go(0), 2)
        self.assertEqual(talk.case(), with_these(EMPTY, [GONE, GONE_LATE, AWAY, never_back]))
        self.assertEqual(talk.aside(), [])

    def test_each_is_heard_with_those_kept_ahead_of_it(self):
        late = ("there", 0, 1, 2, 3)
        talk = Talk(with_these(EMPTY, [STAYS]))
        talk.hear(late)
        talk.hear(("seen", 0, 0, 2, 2))
        talk.hear(AWAY)
        talk.hear(("never", 0, 1, 3, 3))
        self.assertEqual(talk.case()[3], (STAYS, ("seen", 0, 0, 2, 2), ("never", 0, 1, 3, 3)))
        self.assertEqual(talk.let_go(0), 1)
        self.assertEqual(talk.case()[3], (("seen", 0, 0, 2, 2), ("never", 0, 1, 3, 3), AWAY))
        self.assertEqual(talk.aside(), [late])

    def test_none_is_aside_and_none_can_be_kept(self):
        talk = Talk(with_these(EMPTY, [STAYS, FREE]))
        self.assertEqual(talk.let_go(1), 0)
        self.assertEqual(shown(talk), (with_these(EMPTY, [STAYS]), [], (1, 0)))
        talk = Talk(with_these(EMPTY, [STAYS, FREE]))
        talk.hear(GONE)
        self.assertEqual(talk.let_go(1), 0)
        self.assertEqual(shown(talk), (with_these(EMPTY, [STAYS]), [GONE], (2, 0)))

    def test_what_is_let_go_is_not_aside(self):
        talk = Talk(with_these(EMPTY, [STAYS]))
        self.assertEqual(talk.let_go(0), 0)
        self.assertEqual(shown(talk), (EMPTY, [], (1, 0)))

    def test_one_of_six(self):
        talk = full_talk()
        talk.hear(FREE)
        talk.hear(MEETS)
        self.assertEqual(talk.let_go(0), 1)
        self.assertEqual(talk.case()[3], (FREE,) * 6)
        self.assertEqual(talk.aside(), [MEETS])
        self.assertEqual(talk.let_go(5), 1)
        self.assertEqual(talk.case()[3], (FREE,) * 5 + (MEETS,))

    def test_the_first_and_the_last(self):
        for number, left in ((0, [MEETS, FREE]), (1, [STAYS, FREE]), (2, [STAYS, MEETS])):
            talk = Talk(with_these(EMPTY, [STAYS, MEETS, FREE]))
            self.assertEqual(talk.let_go(number), 0)
            self.assertEqual(talk.case(), with_these(EMPTY, left))

    def test_a_number_that_none_has(self):
        for talk in (Talk(EMPTY), full_talk()):
            talk.hear(STAYS)
            talk.back()
            before = shown(talk)
            kept = len(talk.case()[3])
            for number in NO_NUMBERS + NEVER_RIGHT + (kept, kept + 1, 7):
                with self.subTest(number=number):
                    refusing(self, NoTelling, talk.let_go, number)
            self.assertEqual(shown(talk), before)
            self.assertEqual(talk.forth(), "hear")


class BackAndForth(unittest.TestCase):
    def walk(self):
        talk = Talk(with_these(EMPTY, [STAYS]))
        states = [shown(talk)[:2]]
        for step in (lambda: talk.hear(GONE), lambda: talk.hear(FREE), lambda: talk.let_go(0), lambda: talk.hear(AWAY)):
            step()
            states.append(shown(talk)[:2])
        return talk, states, ["hear", "hear", "let_go", "hear"]

    def test_till_nothing_is_left_and_once_more(self):
        talk, states, names = self.walk()
        for turn in range(2):
            for number in (3, 2, 1, 0):
                self.assertEqual(talk.back(), names[number])
                self.assertEqual(shown(talk), states[number] + ((number, 4 - number),))
            refusing(self, Nothing, talk.back)
            refusing(self, Nothing, talk.back)
            self.assertEqual(shown(talk), states[0] + ((0, 4),))
            for number in (1, 2, 3, 4):
                self.assertEqual(talk.forth(), names[number - 1])
                self.assertEqual(shown(talk), states[number] + ((number, 4 - number),))
            refusing(self, Nothing, talk.forth)
            refusing(self, Nothing, talk.forth)
            self.assertEqual(shown(talk), states[4] + ((4, 0),))

    def test_a_new_talk_has_neither(self):
        talk = Talk(EMPTY)
        refusing(self, Nothing, talk.back)
        refusing(self, Nothing, talk.forth)
        self.assertEqual(shown(talk), (EMPTY, [], (0, 0)))

    def test_no_forth_behind_another_step(self):
        for step, name in ((lambda talk: talk.hear(MEETS), "hear"), (lambda talk: talk.let_go(0), "let_go")):
            talk, states, names = self.walk()
            talk.back()
            talk.back()
            step(talk)
            self.assertEqual(talk.counts(), (3, 0))
            refusing(self, Nothing, talk.forth)
            self.assertEqual(talk.back(), name)
            self.assertEqual(shown(talk), states[2] + ((2, 1),))
            self.assertEqual(talk.forth(), name)
            refusing(self, Nothing, talk.forth)

    def test_a_step_that_puts_aside_is_a_step(self):
        talk = Talk(with_these(EMPTY, [STAYS]))
        talk.hear(FREE)
        talk.back()
        self.assertEqual(talk.hear(GONE), "aside")
        self.assertEqual(talk.counts(), (1, 0))
        refusing(self, Nothing, talk.forth)
        talk.back()
        self.assertEqual(talk.aside(), [])

    def test_refusals_between_steps_change_nothing(self):
        talk, states, names = self.walk()
        talk.back()
        talk.back()
        refusing(self, NoTelling, talk.hear, None)
        refusing(self, NoTelling, talk.let_go, 2)
        refusing(self, NoTelling, talk.let_go, True)
        self.assertEqual(shown(talk), states[2] + ((2, 2),))
        self.assertEqual([talk.forth(), talk.forth()], names[2:])
        refusing(self, Nothing, talk.forth)
        refusing(self, NoTelling, talk.hear, [])
        self.assertEqual([talk.back(), talk.back()], names[:1:-1])


class Twins(unittest.TestCase):
    def test_a_twin_in_the_midst_of_steps_taken_back(self):
        talk, states, names = BackAndForth.walk(self)
        talk.back()
        talk.back()
        twin = talk.twin()
        self.assertIsInstance(twin, Talk)
        self.assertIsNot(twin, talk)
        self.assertEqual(shown(twin), states[2] + ((2, 2),))
        self.assertEqual([twin.forth(), twin.forth()], names[2:])
        self.assertEqual(shown(twin), states[4] + ((4, 0),))
        self.assertEqual(shown(talk), states[2] + ((2, 2),))
        self.assertEqual([talk.back(), talk.back()], ["hear", "hear"])
        refusing(self, Nothing, talk.back)
        self.assertEqual(shown(twin), states[4] + ((4, 0),))
        self.assertEqual([twin.back() for count in range(4)], names[::-1])
        refusing(self, Nothing, twin.back)

    def test_steps_at_the_twin_and_at_the_talk(self):
        talk, states, names = BackAndForth.walk(self)
        talk.back()
        twin = talk.twin()
        twin.hear(MEETS)
        self.assertEqual((talk.counts(), twin.counts()), ((3, 1), (4, 0)))
        self.assertEqual(talk.forth(), "hear")
        self.assertEqual(shown(talk), states[4] + ((4, 0),))
        talk.let_go(0)
        self.assertEqual(twin.back(), "hear")
        self.assertEqual(shown(twin), states[3] + ((3, 1),))
        self.assertEqual(talk.counts(), (5, 0))

    def test_a_twin_keeps_what_is_aside(self):
        talk = Talk(with_these(EMPTY, [STAYS]))
        talk.hear(GONE)
        twin = talk.twin()
        self.assertEqual(talk.let_go(0), 1)
        self.assertEqual(shown(twin), (with_these(EMPTY, [STAYS]), [GONE], (1, 0)))
        twin.hear(AWAY)
        self.assertEqual(talk.aside(), [])
        self.assertEqual(twin.aside(), [GONE, AWAY])

    def test_a_twin_of_a_twin(self):
        talk = Talk(EMPTY)
        talk.hear(STAYS)
        twin = talk.twin().twin()
        self.assertEqual(twin.back(), "hear")
        self.assertEqual((shown(twin), shown(talk)), ((EMPTY, [], (0, 1)), (with_these(EMPTY, [STAYS]), [], (1, 0))))

    def test_two_talks_of_one_case(self):
        one, other = Talk(EMPTY), Talk(EMPTY)
        one.hear(STAYS)
        self.assertEqual(shown(other), (EMPTY, [], (0, 0)))


class Steps(unittest.TestCase):
    def step(self, source, talk, model):
        kind = source.choice(("hear",) * 4 + ("let_go", "back", "back", "forth"))
        if kind == "hear":
            telling = random_telling(source, model.frame[0][0], model.frame[1], model.frame[2])
            self.assertEqual(talk.hear(telling), model.hear(telling))
        elif kind == "let_go":
            number = source.randint(-1, 6)
            if 0 <= number < len(model.kept):
                self.assertEqual(talk.let_go(number), model.let_go(number))
            else:
                refusing(self, NoTelling, talk.let_go, number)
        else:
            ways = (model.past, model.future) if kind == "back" else (model.future, model.past)
            act = talk.back if kind == "back" else talk.forth
            if ways[0]:
                self.assertEqual(act(), model.move(*ways))
            else:
                refusing(self, Nothing, act)

    def test_many_steps_of_several_twins(self):
        source = random.Random(131)
        for attempt in range(40):
            case = with_these(random_case(source), ())
            pairs = [(Talk(case), Model(case))]
            for count in range(40):
                talk, model = source.choice(pairs)
                self.step(source, talk, model)
                if source.random() < 0.05:
                    pairs.append((talk.twin(), model.twin()))
                for other, its_model in pairs:
                    self.assertEqual(shown(other), its_model.shown())


if __name__ == "__main__":
    unittest.main()
