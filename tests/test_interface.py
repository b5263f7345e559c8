"""The interface: everything is there under its name, with as many arguments as told, and tells what is told of it."""

import importlib
import inspect
import unittest

from things import CASE, TELLINGS

STAYING = ((2, 0),) * 7
WORLD = (STAYING, STAYING)

# For each module its functions, with the number of arguments.
FUNCTIONS = {
    "cases": {"is_town": 1, "is_case": 1, "is_telling": 2, "opposite": 1, "with_tellings": 2},
    "days": {"far": 1, "steps": 2, "places_at": 2, "is_day": 2, "is_world": 2},
    "holding": {"is_true": 3, "all_true": 2, "true_ones": 2},
    "worlds": {"a_world": 1, "how_many": 1, "paper": 1, "can_be": 1, "is_paper": 2},
    "surely": {"where": 3, "surely_at": 3, "verdict": 2, "needless": 1, "on_the_way": 3, "could_be": 2, "must_be": 2},
    "clashes": {"most_true": 1, "least_clash": 1, "all_clashes": 1, "tied": 1, "alone": 2, "is_clash": 2},
    "texts": {"case_text": 1, "read_case": 1},
    "meeting": {"can_meet": 3, "earliest": 3, "latest": 3, "stays": 3, "must_meet": 3},
    "asking": {"parts": 2, "answers": 2, "best_question": 2, "tells_all": 2},
    "trusting": {"truthful": 2, "most_truthful": 1, "never_truthful": 1, "can_be_truthful": 2},
    "daytexts": {"day_text": 2, "read_day": 2, "world_text": 2, "read_world": 2},
}
METHODS = {
    ("desks", "Desk"): {"case": 0, "take": 1, "drop": 1, "undo": 0, "many": 0},
    ("talks", "Talk"): {"hear": 1, "let_go": 1, "case": 0, "aside": 0, "back": 0, "forth": 0, "counts": 0, "twin": 0},
}
TRUTHS = (
    ("cases", "is_town", (CASE[0],)), ("cases", "is_case", (CASE,)), ("cases", "is_telling", (CASE, TELLINGS[0])),
    ("days", "is_day", (CASE, STAYING)), ("days", "is_world", (CASE, WORLD)),
    ("holding", "is_true", (CASE, WORLD, TELLINGS[0])), ("holding", "all_true", (CASE, WORLD)),
    ("worlds", "can_be", (CASE,)), ("worlds", "is_paper", (CASE, [])),
    ("surely", "on_the_way", (CASE, 0, 1)), ("surely", "could_be", (CASE, TELLINGS[0])),
    ("surely", "must_be", (CASE, TELLINGS[0])), ("clashes", "is_clash", (CASE, [0])),
    ("meeting", "must_meet", (CASE, 0, 1)), ("asking", "tells_all", (CASE, TELLINGS)),
    ("trusting", "can_be_truthful", (CASE, [0])),
)


def found(module, name):
    return getattr(importlib.import_module(f"daytellings.{module}"), name)


class Interface(unittest.TestCase):
    def assert_takes(self, function, number):
        parameters = inspect.signature(function).parameters.values()
        self.assertEqual(len([one for one in parameters if one.default is one.empty]), number, function)

    def test_functions(self):
        for module, functions in FUNCTIONS.items():
            for name, number in functions.items():
                self.assert_takes(found(module, name), number)

    def test_classes(self):
        for (module, name), methods in METHODS.items():
            made = found(module, name)(CASE)
            for method, number in methods.items():
                self.assert_takes(getattr(made, method), number)

    def test_true_or_false(self):
        for module, name, given in TRUTHS:
            self.assertIs(type(found(module, name)(*given)), bool, name)


if __name__ == "__main__":
    unittest.main()
