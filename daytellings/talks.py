"""Talks: tellings are kept, as long as all can be true, or put aside; step by step, back and forth."""

from daytellings.cases import MOST_TELLINGS, demand_number, demand_telling, with_tellings, without
from daytellings.errors import NoCase, Nothing
from daytellings.surely import could_be
from daytellings.worlds import can_be


# A state is a tuple (case, aside): the case with the tellings that are kept, and a tuple of those that are aside.
def heard(state, telling):
    """The state behind this one, when this telling was heard."""
    case = state[0]
    if len(case[3]) < MOST_TELLINGS and could_be(case, telling):
        return (with_tellings(case, case[3] + (telling,)), state[1])
    return (case, state[1] + (telling,))


class Talk:
    def __init__(self, case):
        if not can_be(case):
            raise NoCase("the tellings of this case can't all be true")
        self.state = (case, ())
        # Tuples of what a step is called, and of the state to which back, or forth, leads.
        self.done = []
        self.undone = []

    def hear(self, telling):
        demand_telling(self.state[0], telling)
        after = heard(self.state, telling)
        told = "kept" if after[1] == self.state[1] else "aside"
        self.go("hear", after)
        return told

    def let_go(self, number):
        demand_number(self.state[0], number)
        case = without(self.state[0], number)
        after = (case, ())
        for telling in self.state[1]:
            after = heard(after, telling)
        self.go("let_go", after)
        return len(after[0][3]) - len(case[3])

    def go(self, name, after):
        self.done.append((name, self.state))
        self.undone = []
        self.state = after

    def case(self):
        return self.state[0]

    def aside(self):
        return list(self.state[1])

    def move(self, source, target):
        step = source.pop()
        target.append((step[0], self.state))
        self.state = step[1]
        return step[0]

    def back(self):
        if len(self.done) == 0:
            raise Nothing("there is nothing to take back")
        return self.move(self.done, self.undone)

    def forth(self):
        if len(self.undone) == 0:
            raise Nothing("there is nothing to do again")
        return self.move(self.undone, self.done)

    def counts(self):
        return (len(self.done), len(self.undone))

    def twin(self):
        other = Talk(self.state[0])
        other.state = self.state
        other.done = list(self.done)
        other.undone = list(self.undone)
        return other
