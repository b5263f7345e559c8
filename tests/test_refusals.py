"""[3.1], its last sentence, and [0.3]: what is no case is refused, ahead of all else."""

import unittest

from daytellings.asking import answers, best_question, parts, tells_all
from daytellings.cases import is_telling
from daytellings.clashes import all_clashes, alone, is_clash, least_clash, most_true, tied
from daytellings.days import is_day, is_world
from daytellings.daytexts import day_text, read_day, read_world, world_text
from daytellings.desks import Desk
from daytellings.errors import NoCase
from daytellings.holding import all_true, is_true, true_ones
from daytellings.meeting import can_meet, earliest, latest, must_meet, stays
from daytellings.surely import could_be, must_be, needless, on_the_way, surely_at, verdict, where
from daytellings.talks import Talk
from daytellings.texts import case_text
from daytellings.trusting import can_be_truthful, most_truthful, never_truthful, truthful
from daytellings.worlds import a_world, can_be, how_many, is_paper, paper
from things import CASE, NEVER_RIGHT, TELLINGS, TOWN, refusing, spoilt, with_other_lengths

STAYING = ((2, 0),) * 7
WORLD = (STAYING, STAYING)

# Each function, with what may stand behind the case.
CALLS = (
    (is_telling, (TELLINGS[0],)),
    (is_day, (STAYING,)),
    (is_world, (WORLD,)),
    (is_true, (WORLD, TELLINGS[0])),
    (true_ones, (WORLD,)),
    (all_true, (WORLD,)),
    (a_world, ()),
    (can_be, ()),
    (how_many, ()),
    (paper, ()),
    (is_paper, ([[] for moment in range(7)],)),
    (where, (0, 0)),
    (on_the_way, (0, 0)),
    (surely_at, (0, 0)),
    (could_be, (TELLINGS[0],)),
    (must_be, (TELLINGS[0],)),
    (verdict, (TELLINGS[0],)),
    (needless, ()),
    (most_true, ()),
    (least_clash, ()),
    (is_clash, ([0],)),
    (all_clashes, ()),
    (tied, ()),
    (alone, ([0, 1],)),
    (Desk, ()),
    (case_text, ()),
    (can_meet, (0, 1)),
    (must_meet, (0, 1)),
    (earliest, (0, 0)),
    (latest, (0, 0)),
    (stays, (0, 0)),
    (parts, (TELLINGS[0],)),
    (answers, (TELLINGS,)),
    (tells_all, (TELLINGS,)),
    (best_question, (TELLINGS,)),
    (truthful, (WORLD,)),
    (can_be_truthful, ([0, 1],)),
    (most_truthful, ()),
    (never_truthful, ()),
    (day_text, (STAYING,)),
    (read_day, ("ccccccc",)),
    (world_text, (WORLD,)),
    (read_world, ("X ccccccc\nY ccccccc\n",)),
    (Talk, ()),
)

NO_CASES = list(NEVER_RIGHT) + spoilt(CASE) + with_other_lengths(CASE[:3]) + [
    0,
    1,
    (),
    TOWN,
    WORLD,
    CASE[:3],
    CASE + ((),),
    list(CASE),
    (TOWN, 0, 6, ()),
    (TOWN, 4, 6, ()),
    (TOWN, 2, -1, ()),
    (TOWN, 2, 10, ()),
    (TOWN, 2, 6, TELLINGS[:1] * 7),
    (TOWN, 2, 6, list(TELLINGS)),
    (TOWN, 1, 6, TELLINGS),
    (TOWN, 2, 5, TELLINGS),
    ((0, ()), 1, 0, ()),
    ((6, ()), 1, 0, ()),
    ((2, ((0, 1, 5),)), 1, 0, ()),
    ((2, ((0, 1, 1), (0, 1, 2))), 1, 0, ()),
]


class NoCases(unittest.TestCase):
    def test_no_case_is_refused(self):
        for function, others in CALLS:
            for wrong in NO_CASES:
                with self.subTest(function=function.__name__, wrong=wrong):
                    refusing(self, NoCase, function, wrong, *others)

    def test_ahead_of_all_that_stands_behind_it(self):
        for function, others in CALLS:
            for odd in NEVER_RIGHT:
                refusing(self, NoCase, function, None, *[odd for other in others])

    def test_a_case_is_not_refused(self):
        for function, others in CALLS:
            function(CASE, *others)

    def test_a_refusal_changes_nothing(self):
        wrong = [list(TOWN), 2, 6, [list(telling) for telling in TELLINGS]]
        for function, others in CALLS:
            refusing(self, NoCase, function, wrong, *others)
        self.assertEqual(wrong, [list(TOWN), 2, 6, [list(telling) for telling in TELLINGS]])


if __name__ == "__main__":
    unittest.main()
