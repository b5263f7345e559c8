"""[3.2], and what [0.3] says of it: marks and papers."""

import copy
import itertools
import random
import unittest

from daytellings.worlds import can_be, is_paper, paper
from things import (EDGE_CASES, NEVER_RIGHT, deep, marks_by_walking, paper_by_words, random_cases, told_anew,
                    true_worlds)

PAIR = (2, ((0, 1, 1),))
FAR_PAIR = (2, ((0, 1, 4),))

# From place 0 to place 1 it takes four moments, but only three are given: the person leaves, and is too late.
TOO_FAR = (FAR_PAIR, 1, 3, (("there", 0, 0, 0, 0), ("seen", 0, 1, 1, 3)))
TOO_FAR_PAPER = [
    [(((0, 0),), (False, False))],
    [(((0, 0),), (False, False)), (((1, 3),), (False, False))],
    [(((0, 0),), (False, False)), (((1, 2),), (False, False)), (((1, 3),), (False, False))],
    [],
]

# Both meet, at the first moment or the next one, and can't be there at the last.
MET = (PAIR, 2, 2, (("met", 0, 1, 0, 1), ("never", 0, 0, 2, 2), ("never", 0, 1, 2, 2)))
MET_PAPER = [
    [(((0, 0), (0, 0)), (True, False, False)), (((0, 0), (1, 0)), (False, False, False)),
     (((1, 0), (0, 0)), (False, False, False)), (((1, 0), (1, 0)), (True, False, False))],
    [(((0, 0), (0, 0)), (True, False, False)), (((0, 0), (1, 0)), (True, False, False)),
     (((1, 0), (0, 0)), (True, False, False)), (((1, 0), (1, 0)), (True, False, False))],
    [],
]

NOWHERE = ((1, ()), 1, 0, (("never", 0, 0, 0, 0),))
NO_WORLD = [case for case in list(EDGE_CASES) + random_cases(21, 150, tellings=4) if not true_worlds(case)]


class Paper(unittest.TestCase):
    def test_by_hand(self):
        self.assertEqual(paper(TOO_FAR), TOO_FAR_PAPER)
        self.assertEqual(paper(MET), MET_PAPER)
        self.assertEqual(paper(NOWHERE), [[]])

    def test_one_moment(self):
        case = (PAIR, 1, 0, (("seen", 0, 0, 0, 0), ("there", 0, 1, 0, 0)))
        self.assertEqual(paper(case), [[]])

    def test_lists_stay_empty_once_no_mark_comes(self):
        case = (PAIR, 1, 3, (("never", 0, 0, 1, 1), ("never", 0, 1, 1, 2)))
        self.assertEqual(paper(case), [[(((0, 0),), (False, False)), (((1, 0),), (False, False))], [], [], []])

    def test_seen_and_met_are_lost_at_their_end(self):
        case = ((2, ()), 1, 2, (("seen", 0, 0, 0, 1), ("never", 0, 0, 2, 2)))
        self.assertEqual(paper(case), [
            [(((0, 0),), (True, False)), (((1, 0),), (False, False))],
            [(((0, 0),), (True, False))],
            [],
        ])

    def test_what_is_so_ahead_of_the_first_moment_is_not_done(self):
        case = ((2, ()), 1, 2, (("seen", 0, 0, 1, 2), ("never", 0, 0, 2, 2)))
        self.assertEqual(paper(case), [
            [(((0, 0),), (False, False)), (((1, 0),), (False, False))],
            [(((0, 0),), (True, False)), (((1, 0),), (False, False))],
            [],
        ])

    def test_two_on_the_same_way_do_not_meet(self):
        case = ((2, ((0, 1, 2),)), 2, 1, (("there", 0, 0, 0, 0), ("there", 1, 0, 0, 0), ("never", 0, 0, 1, 1),
                                          ("met", 0, 1, 1, 1)))
        self.assertEqual(paper(case), [[(((0, 0), (0, 0)), (False,) * 4)], []])

    def test_none_where_there_is_a_world(self):
        for case in EDGE_CASES + (TOO_FAR, MET):
            if true_worlds(case):
                self.assertIsNone(paper(case), case)
        for case in random_cases(22, 60, tellings=2):
            self.assertIs(paper(case) is None, len(true_worlds(case)) > 0, case)

    def test_all_marks_that_come_by_walking(self):
        self.assertGreater(len(NO_WORLD), 60)
        for case in NO_WORLD:
            self.assertEqual(paper(case), marks_by_walking(case), case)

    def test_of_three_persons(self):
        for case in random_cases(23, 40, persons=3, greatest_last=2):
            expected = None if true_worlds(case) else marks_by_walking(case)
            self.assertEqual(paper(case), expected, case)

    def test_kinds(self):
        for part in paper(MET):
            self.assertIs(type(part), list)
            for stands, done in part:
                self.assertEqual({type(truth) for truth in done}, {bool})
                self.assertEqual({type(number) for stand in stands for number in stand}, {int})

    def test_each_time_new_lists(self):
        told_anew(self, paper, TOO_FAR)
        told_anew(self, paper, MET)
        told_anew(self, paper, ((1, ()), 1, 2, (("never", 0, 0, 0, 0),)))


class IsPaper(unittest.TestCase):
    def holds(self, case, *things):
        for thing in things:
            self.assertIs(is_paper(case, thing), True, thing)

    def fails(self, case, *things):
        for thing in things:
            self.assertIs(is_paper(case, thing), False, thing)

    def test_what_paper_tells_is_one(self):
        self.holds(TOO_FAR, TOO_FAR_PAPER)
        self.holds(MET, MET_PAPER)
        self.holds(NOWHERE, [[]])
        for case in NO_WORLD:
            self.holds(case, paper(case))

    def test_in_any_order_and_twice(self):
        for case in [TOO_FAR, MET] + NO_WORLD[:40]:
            marks = paper(case)
            self.holds(case, [part[::-1] for part in marks], [part * 2 for part in marks],
                       [part + part[:1] for part in marks])

    def test_one_left_out(self):
        for case in [TOO_FAR, MET] + NO_WORLD[:40]:
            marks = paper(case)
            for moment, part in enumerate(marks):
                for number in range(len(part)):
                    less = part[:number] + part[number + 1:]
                    self.fails(case, marks[:moment] + [less] + marks[moment + 1:])

    def test_one_too_many_whose_marks_are_all_there(self):
        more = copy.deepcopy(TOO_FAR_PAPER)
        more[2].insert(0, (((1, 1),), (True, False)))
        # It comes to place 1 at the last moment: seen is done there, so a mark would come.
        self.fails(TOO_FAR, more)
        more[2][0] = (((0, 1),), (True, False))
        self.holds(TOO_FAR, more)

    def test_one_too_many_whose_marks_are_not_there(self):
        more = copy.deepcopy(TOO_FAR_PAPER)
        more[0].append((((1, 0),), (False, False)))
        self.fails(TOO_FAR, more)
        more = copy.deepcopy(TOO_FAR_PAPER)
        more[1].append((((1, 2),), (False, False)))
        self.fails(TOO_FAR, more)
        more[2].append((((1, 1),), (False, False)))
        self.fails(TOO_FAR, more)

    def test_what_is_done_stays_done_whatever_the_word(self):
        case = ((2, ()), 1, 2, (("there", 0, 0, 0, 0), ("never", 0, 0, 2, 2)))
        marks = [[(((0, 0),), (False, False))], [(((0, 0),), (False, False))], []]
        self.assertEqual(paper(case), marks)
        odd = (((0, 0),), (True, True))
        self.holds(case, [marks[0], marks[1] + [odd], []], [marks[0] + [odd], marks[1] + [odd], []])
        self.fails(case, [marks[0] + [odd], marks[1], []])

    def test_a_mark_at_which_a_telling_is_lost_already(self):
        case = ((2, ()), 1, 3, (("seen", 0, 0, 0, 1), ("never", 0, 0, 3, 3)))
        marks = paper(case)
        lost = (((1, 0),), (False, False))
        self.holds(case, [marks[0], marks[1] + [lost], marks[2], []], [marks[0], marks[1], marks[2] + [lost], []])
        self.fails(case, [marks[0], marks[1], marks[2] + [(((1, 0),), (True, False))], []])

    def test_any_at_the_last_moment(self):
        for case, marks in ((TOO_FAR, TOO_FAR_PAPER), (MET, MET_PAPER), (NOWHERE, [[]])):
            for mark in marks[0] + [(((0, 0),) * case[1], (False,) * len(case[3]))]:
                self.fails(case, marks[:-1] + [[mark]])

    def test_stands_to_which_no_way_leads(self):
        more = copy.deepcopy(MET_PAPER)
        more[1].append((((0, 3), (1, 2)), (False, True, False)))
        self.holds(MET, more)
        more[1][-1] = (((0, 3), (1, 2)), (True, True, False))
        self.fails(MET, more)

    def test_there_is_none_where_there_is_a_world(self):
        for case in EDGE_CASES + tuple(random_cases(24, 60)):
            if can_be(case):
                self.fails(case, marks_by_walking(case), [[] for moment in range(case[2] + 1)],
                           marks_by_walking(case)[:-1] + [[]])

    def test_all_marks_but_at_the_last_moment(self):
        for case in NO_WORLD:
            if case[2] > 0 and len(case[3]) < 4 and case[1] == 1:
                every = all_marks_of(case)
                thing = [list(every) for moment in range(case[2])] + [[]]
                self.assertIs(is_paper(case, thing), paper_by_words(case, thing), case)

    def test_spoilt_at_random(self):
        source = random.Random(25)
        answers = []
        for case in NO_WORLD:
            few = case[1] == 1 or len(case[3]) < 4
            every = all_marks_of(case) if few else [mark for part in paper(case) for mark in part]
            for attempt in range(4):
                thing = paper(case)
                for change in range(source.randint(1, 2)):
                    self.change(source, thing, every)
                answers.append(is_paper(case, thing))
                self.assertIs(answers[-1], paper_by_words(case, thing), (case, thing))
        self.assertGreater(answers.count(True), 20)
        self.assertGreater(answers.count(False), 20)

    def change(self, source, thing, every):
        part = source.choice(thing)
        if part and source.random() < 0.3:
            part.remove(source.choice(part))
        elif every:
            part.append(source.choice(every))
        source.shuffle(part)

    def test_numbers_of_moments(self):
        self.fails(TOO_FAR, TOO_FAR_PAPER[:3], TOO_FAR_PAPER + [[]], [], [[]], TOO_FAR_PAPER[:3] + [[], []])
        self.fails(NOWHERE, [], [[], []])

    def test_lists_and_tuples(self):
        self.fails(TOO_FAR, tuple(TOO_FAR_PAPER), [tuple(part) for part in TOO_FAR_PAPER], TOO_FAR_PAPER[:3] + [()])
        for moment in range(3):
            stands, done = TOO_FAR_PAPER[moment][0]
            for wrong in ([stands, done], (list(stands), done), (stands, list(done)), ([list(stands[0])], done),
                          ((list(stands[0]),), done)):
                self.fails(TOO_FAR, self.with_first(moment, wrong), self.with_one_more(moment, wrong))

    def with_first(self, moment, wrong):
        return TOO_FAR_PAPER[:moment] + [[wrong] + TOO_FAR_PAPER[moment][1:]] + TOO_FAR_PAPER[moment + 1:]

    def with_one_more(self, moment, wrong):
        return TOO_FAR_PAPER[:moment] + [TOO_FAR_PAPER[moment] + [wrong]] + TOO_FAR_PAPER[moment + 1:]

    def test_what_is_no_mark(self):
        wrong_marks = [
            (((0, 0),), (False,)), (((0, 0),), (False,) * 3), (((0, 0),), ()), (((0, 0), (0, 0)), (False, False)),
            ((), (False, False)), (((0, 0),),), (((0, 0),), (False, False), ()), ((0, 0), (False, False)),
            (((0,),), (False, False)), (((0, 0, 0),), (False, False)), (((2, 0),), (False, False)),
            (((-1, 0),), (False, False)), (((0, 4),), (False, False)), (((0, -1),), (False, False)),
            (((False, 0),), (False, False)), (((0, False),), (False, False)), (((True, 2),), (False, False)),
            (((1, True),), (False, False)), (((0, 0),), (0, 0)), (((0, 0),), (False, 0)), (((0, 0),), (1, False)),
            (((0, 0),), (None, False)), (((0, 0),), (False, "")), (((0, None),), (False, False)),
            ((("a", 0),), (False, False)), (((0, 0),), False), (0, (False, False)), ("ab"), ((0, 0),),
        ]
        for wrong in wrong_marks + list(NEVER_RIGHT):
            for moment in range(4):
                self.fails(TOO_FAR, self.with_one_more(moment, wrong))
            self.fails(TOO_FAR, self.with_first(0, wrong))

    def test_each_stand_of_a_mark_is_one(self):
        for wrong in ((2, 0), (0, 4), (0, -1), (-1, 0), (True, 0), (0, False), [0, 0], (0,), None):
            for stands in (((0, 3), wrong), (wrong, (0, 3)), (wrong, wrong)):
                more = copy.deepcopy(MET_PAPER)
                # With met not done at its end nothing comes behind a mark: it is but what it is made of that counts.
                more[1].append((stands, (False, False, False)))
                self.fails(MET, more)
                more[1][-1] = (((0, 3), (0, 3)), (False, False, False))
                self.holds(MET, more)

    def test_any_thing_is_taken(self):
        self.fails(TOO_FAR, 0, 1, *NEVER_RIGHT)
        self.fails(TOO_FAR, *[[odd] * 4 for odd in NEVER_RIGHT])
        self.fails(TOO_FAR, *[[odd] + TOO_FAR_PAPER[1:] for odd in NEVER_RIGHT])
        self.fails(TOO_FAR, deep(list, 12), [[deep(tuple, 10)]] * 4, TOO_FAR)
        # An empty list is right at the last moment alone.
        self.fails(TOO_FAR, *[TOO_FAR_PAPER[:3] + [odd] for odd in NEVER_RIGHT if odd != []])

    def test_what_is_handed_in_is_not_changed(self):
        thing = [part[::-1] * 2 for part in TOO_FAR_PAPER]
        before = copy.deepcopy(thing)
        self.holds(TOO_FAR, thing)
        self.assertEqual(thing, before)


def all_marks_of(case):
    """All marks, be it that they come or not."""
    stands = list(itertools.product(range(case[0][0]), range(4)))
    return list(itertools.product(itertools.product(stands, repeat=case[1]),
                                  itertools.product((False, True), repeat=len(case[3]))))


if __name__ == "__main__":
    unittest.main()
