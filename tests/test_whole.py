"""[0.2] (a) to (k): what holds over all cases."""

import random
import unittest

from daytellings.asking import answers, best_question, parts, tells_all
from daytellings.cases import with_tellings
from daytellings.clashes import all_clashes, alone, is_clash, least_clash, most_true, tied
from daytellings.days import is_world
from daytellings.daytexts import day_text, read_day, read_world, world_text
from daytellings.desks import Desk
from daytellings.errors import NoText
from daytellings.holding import all_true, is_true
from daytellings.meeting import can_meet, earliest, latest, must_meet, stays
from daytellings.surely import could_be, must_be, needless, on_the_way, surely_at, verdict, where
from daytellings.talks import Talk
from daytellings.texts import case_text, read_case
from daytellings.trusting import can_be_truthful, most_truthful, never_truthful, truthful
from daytellings.worlds import a_world, can_be, how_many, is_paper, paper
from things import EDGE_CASES, days_by_choosing, random_case, random_cases, random_telling, told_true, true_worlds

FULL_WAYS = tuple((one, other, 1 + (one * other) % 4) for one in range(5) for other in range(one + 1, 5))

# Greater than one can go through: what holds over all cases holds here as well.
GREAT_CASES = (
    ((5, FULL_WAYS), 2, 9, (("met", 0, 1, 0, 9), ("seen", 0, 4, 0, 9), ("never", 1, 4, 0, 9), ("there", 1, 3, 2, 4))),
    ((5, FULL_WAYS), 2, 6, (("met", 0, 1, 0, 6), ("there", 0, 4, 0, 3), ("never", 1, 4, 0, 6), ("apart", 0, 1, 4, 6))),
    ((4, ((0, 1, 1), (1, 2, 1), (2, 3, 1))), 3, 5, (
        ("there", 0, 0, 0, 0), ("there", 1, 3, 0, 0), ("met", 0, 1, 0, 2), ("met", 0, 2, 3, 5), ("met", 1, 2, 3, 5))),
    ((4, ((0, 1, 1), (1, 2, 1), (2, 3, 1))), 3, 4, (
        ("there", 0, 0, 0, 0), ("there", 1, 3, 0, 0), ("met", 0, 1, 0, 2), ("seen", 2, 3, 0, 4), ("seen", 2, 0, 0, 4))),
)
CASES = list(EDGE_CASES) + random_cases(61, 60) + random_cases(62, 20, persons=3, greatest_last=2) + list(GREAT_CASES)
SMALL_CASES = CASES[:-len(GREAT_CASES)]


class Whole(unittest.TestCase):
    def test_a_a_world_or_a_paper_and_not_both(self):
        for case in CASES:
            world = a_world(case)
            marks = paper(case)
            self.assertIs(world is None, marks is not None, case)
            self.assertIs(can_be(case), world is not None, case)
            self.assertIs(how_many(case) > 0, world is not None, case)
            if world is None:
                self.assertIs(is_paper(case, marks), True, case)
            else:
                self.assertIs(is_world(case, world) and all_true(case, world), True, case)

    def test_b_what_is_told_of_a_person(self):
        for case in SMALL_CASES:
            worlds = true_worlds(case)
            for who in range(case[1]):
                for moment in range(case[2] + 1):
                    stands = [world[who][moment] for world in worlds]
                    for place in range(case[0][0]):
                        self.assertEqual(place in where(case, who, moment), (place, 0) in stands)
                    self.assertEqual(on_the_way(case, who, moment), any(left for place, left in stands))
                    surely = surely_at(case, who, moment)
                    if surely is not None:
                        self.assertEqual(set(stands), {(surely, 0)})

    def test_b_where_and_surely_agree(self):
        for case in CASES:
            for moment in (0, case[2]):
                at = where(case, 0, moment)
                away = on_the_way(case, 0, moment)
                self.assertEqual(bool(at or away), can_be(case), case)
                self.assertEqual(surely_at(case, 0, moment), at[0] if len(at) == 1 and not away else None, case)

    def test_c_a_telling_more(self):
        source = random.Random(63)
        for case in CASES:
            telling = random_telling(source, case[0][0], case[1], case[2])
            if len(case[3]) == 6:
                case = with_tellings(case, case[3][1:])
            more = with_tellings(case, case[3] + (telling,))
            self.assertLessEqual(how_many(more), how_many(case), more)
            self.assertIs(could_be(case, telling), can_be(more), more)
            self.assertIs(must_be(case, telling), how_many(more) == how_many(case), more)
            self.assertIs(verdict(more, telling) in ("true", "none"), True, more)
            if can_be(more):
                self.assertIs(is_true(case, a_world(more), telling), True, more)

    def test_c_true_in_all_worlds_or_in_some(self):
        source = random.Random(64)
        for attempt in range(60):
            case = random_case(source)
            telling = random_telling(source, case[0][0], case[1], case[2])
            truths = [is_true(case, world, telling) for world in true_worlds(case)]
            self.assertIs(must_be(case, telling), all(truths), (case, telling))
            self.assertIs(could_be(case, telling), any(truths), (case, telling))

    def test_c_needless_tellings_leave_as_many_worlds(self):
        for case in CASES:
            for number in range(len(case[3])):
                less = with_tellings(case, case[3][:number] + case[3][number + 1:])
                self.assertIs(number in needless(case), how_many(less) == how_many(case), case)

    def test_c_desks_take_tellings_and_have_no_more_worlds(self):
        source = random.Random(65)
        for case in CASES:
            desk = Desk(with_tellings(case, case[3][:3]))
            while len(desk.case()[3]) < 6:
                ahead = desk.case()
                told = desk.take(random_telling(source, case[0][0], case[1], case[2]))
                fewer = how_many(desk.case())
                self.assertLessEqual(fewer, how_many(ahead), desk.case())
                self.assertEqual(told == "true", 0 < fewer == how_many(ahead), desk.case())
                self.assertEqual(told == "open", 0 < fewer < how_many(ahead), desk.case())
                self.assertEqual(told == "false", fewer == 0 < how_many(ahead), desk.case())

    def test_d_a_clash_can_not_be_true_and_each_part_of_it_can(self):
        for case in CASES:
            clashes = all_clashes(case)
            self.assertIs(clashes == [], can_be(case), case)
            self.assertEqual(least_clash(case), clashes[0] if clashes else None, case)
            for clash in clashes:
                self.assertIs(is_clash(case, clash), True, case)
                self.assertIs(self.can(case, clash), False, case)
                for number in clash:
                    self.assertIs(self.can(case, [other for other in clash if other != number]), True, case)
            self.assertIs(self.can(case, most_true(case)), True, case)

    def can(self, case, numbers):
        return can_be(with_tellings(case, [case[3][number] for number in numbers]))

    def test_e_persons_who_are_not_tied_have_worlds_of_their_own(self):
        for case in CASES:
            product = 1
            for group in tied(case):
                product *= how_many(alone(case, group))
            self.assertEqual(how_many(case), product, case)

    def test_e_days_of_worlds_can_be_put_together(self):
        for case in SMALL_CASES:
            parts = 1
            worlds = true_worlds(case)
            for group in tied(case):
                own = {tuple(world[person] for person in group) for world in worlds}
                parts *= len(own)
                if worlds:
                    self.assertEqual(own, set(true_worlds(alone(case, group))), case)
            self.assertEqual(how_many(case), parts, case)

    def test_f_texts_read_back_as_what_they_write_and_as_nothing_else(self):
        texts = {}
        for case in CASES:
            text = case_text(case)
            self.assertEqual(read_case(text), case)
            self.assertEqual(texts.setdefault(text, case), case)
            for place in range(len(text)):
                other = text[:place] + "1" + text[place + 1:]
                self.assert_reads_as_what_it_writes(other)

    def assert_reads_as_what_it_writes(self, text):
        try:
            case = read_case(text)
        except NoText:
            return
        self.assertEqual(case_text(case), text)

    def test_g_two_meet_as_told_in_some_world_and_at_no_other_moment_and_place(self):
        for case in SMALL_CASES:
            if case[1] == 1:
                continue
            told = set(can_meet(case, 0, 1))
            seen = [{(moment, one[0]) for moment, (one, other) in enumerate(zip(world[0], world[1]))
                     if one == other and one[1] == 0} for world in true_worlds(case)]
            self.assertEqual(told, set().union(*seen), case)
            self.assertIs(must_meet(case, 0, 1), all(seen), case)

    def test_g_meetings_agree_with_where_persons_can_be(self):
        for case in CASES[::3] + list(GREAT_CASES):
            for moment, place in can_meet(case, 0, 1) if case[1] > 1 else []:
                self.assertIn(place, where(case, 0, moment), case)
                self.assertIn(place, where(case, 1, moment), case)
            moments = [moment for moment in range(case[2] + 1) if 0 in where(case, 0, moment)]
            self.assertEqual(earliest(case, 0, 0), moments[0] if moments else None, case)
            self.assertEqual(latest(case, 0, 0), moments[-1] if moments else None, case)

    def test_g_one_stays_as_often_as_told_never_less_nor_more(self):
        for case in SMALL_CASES:
            for place in range(case[0][0]):
                counts = [world[0].count((place, 0)) for world in true_worlds(case)]
                self.assertEqual(stays(case, 0, place), (min(counts), max(counts)) if counts else None, case)

    def some_of(self, source, case, number):
        return [random_telling(source, case[0][0], case[1], case[2]) for count in range(number)]

    def test_h_each_answer_told_is_given_in_some_world(self):
        source = random.Random(66)
        for case in SMALL_CASES:
            some = self.some_of(source, case, source.randint(0, 6))
            given = [tuple(told_true(world, telling) for telling in some) for world in true_worlds(case)]
            self.assertEqual(answers(case, some), sorted(set(given)), (case, some))
            self.assertIs(tells_all(case, some), len(set(given)) == len(given), (case, some))

    def test_h_parts_come_to_all_worlds(self):
        source = random.Random(67)
        for case in CASES:
            some = self.some_of(source, case, 3)
            found = [parts(case, telling) for telling in some]
            for telling, part in zip(some, found):
                self.assertEqual(sum(part), how_many(case), (case, telling))
                self.assertEqual(part[0] > 0, could_be(case, telling), (case, telling))
                self.assertEqual(part[1] == 0, must_be(case, telling), (case, telling))
                expected = [(truth,) for truth in (False, True) if part[1 - truth] > 0]
                self.assertEqual(answers(case, [telling]), expected, (case, telling))
            lesser = [min(part) for part in found]
            self.assertEqual(best_question(case, some), lesser.index(max(lesser)), (case, some))

    def test_i_the_tellings_of_persons_told_can_all_be_true_and_no_more_persons_can_be_trusted(self):
        for case in CASES:
            most = most_truthful(case)
            self.assertIs(can_be_truthful(case, most), True, case)
            self.assertIs(can_be(with_tellings(case, [told for told in case[3] if told[1] in most])), True, case)
            for person in set(range(case[1])) - set(most):
                self.assertIs(can_be_truthful(case, sorted(most + [person])), False, case)
            for person in range(case[1]):
                self.assertIs(person in never_truthful(case), not can_be_truthful(case, [person]), case)
            world = a_world(with_tellings(case, [told for told in case[3] if told[1] in most]))
            self.assertLessEqual(set(most), set(truthful(case, world)), case)
            self.assertEqual(len(truthful(case, world)), len(most), case)

    def test_j_days_and_worlds_have_one_text_each_which_reads_back(self):
        for case in SMALL_CASES:
            days = sorted(days_by_choosing(case[0], case[2]))
            texts = [day_text(case, day) for day in days]
            self.assertEqual(len(set(texts)), len(days), case)
            self.assertEqual([read_day(case, text) for text in texts], days, case)
        for case in CASES:
            world = a_world(with_tellings(case, []))
            self.assertEqual(read_world(case, world_text(case, world)), world, case)
            days = "".join(f"{sign} {day_text(case, day)}\n" for sign, day in zip("XYZ", world))
            self.assertEqual(world_text(case, world), days, case)

    def test_k_what_a_talk_keeps_can_all_be_true_and_what_is_aside_could_not_be_kept_as_well(self):
        source = random.Random(68)
        for case in CASES:
            talk = Talk(with_tellings(case, []))
            states = [(talk.case(), talk.aside())]
            for telling in list(case[3]) + self.some_of(source, case, 3):
                talk.hear(telling)
                states.append((talk.case(), talk.aside()))
                if len(talk.case()[3]) > 4:
                    talk.let_go(source.randrange(len(talk.case()[3])))
                    states.append((talk.case(), talk.aside()))
            for kept, aside in states:
                self.assertIs(can_be(kept), True, kept)
                for telling in aside:
                    self.assertTrue(len(kept[3]) == 6 or not could_be(kept, telling), (kept, telling))
            self.assert_goes_back_and_forth(talk, states)

    def assert_goes_back_and_forth(self, talk, states):
        twin = talk.twin()
        for state in states[-2::-1]:
            talk.back()
            self.assertEqual((talk.case(), talk.aside()), state)
        self.assertEqual(talk.counts(), (0, len(states) - 1))
        for state in states[1:]:
            talk.forth()
            self.assertEqual((talk.case(), talk.aside()), state)
        self.assertEqual((twin.case(), twin.aside(), twin.counts()), states[-1] + ((len(states) - 1, 0),))


if __name__ == "__main__":
    unittest.main()
