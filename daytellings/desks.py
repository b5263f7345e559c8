"""Desks: they take tellings and drop them, and take back what they did."""

from daytellings.cases import MOST_TELLINGS, demand_case, demand_number, demand_telling, with_tellings, without
from daytellings.errors import NoCase, Nothing
from daytellings.surely import verdict


class Desk:
    def __init__(self, case):
        demand_case(case)
        self.now = case
        self.earlier = []

    def case(self):
        return self.now

    def take(self, telling):
        demand_telling(self.now, telling)
        if len(self.now[3]) == MOST_TELLINGS:
            raise NoCase("a case has no more tellings than it has now")
        told = verdict(self.now, telling)
        self.change(with_tellings(self.now, self.now[3] + (telling,)))
        return told

    def drop(self, number):
        demand_number(self.now, number)
        self.change(without(self.now, number))

    def change(self, case):
        self.earlier.append(self.now)
        self.now = case

    def undo(self):
        if len(self.earlier) == 0:
            raise Nothing("there is nothing to take back")
        self.now = self.earlier.pop()

    def many(self):
        return len(self.earlier)
