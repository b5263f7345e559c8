"""Marks, how they come from moment to moment, and in how many ways; the groups of persons who are tied.

The marks of a moment are held as a dict of dicts: for all stands, and for all that is done there, in how many ways
this comes. What is done is held as a whole number, with a bit for each telling, since most marks share their stands.
"""

from daytellings.cases import LONGEST_WAY, PERSON_WORDS
from daytellings.days import steps
from daytellings.holding import ONCE_WORDS, is_so


def bits_of(truths):
    bits = 0
    weight = 1
    for truth in truths:
        if truth:
            bits = bits + weight
        weight = weight * 2
    return bits


def truths_of(bits, length):
    truths = []
    for number in range(length):
        truths.append(bits % 2 == 1)
        bits = bits // 2
    return tuple(truths)


def speaks_of(telling, moment):
    return telling[3] <= moment <= telling[4]


def becomes_done(telling, moment, stands):
    return telling[0] in ONCE_WORDS and speaks_of(telling, moment) and is_so(telling, stands)


def becomes_false(telling, moment, stands):
    if telling[0] in ONCE_WORDS or not speaks_of(telling, moment):
        return False
    return is_so(telling, stands) != (telling[0] == "there")


def must_be_done(telling, moment):
    return telling[0] in ONCE_WORDS and telling[4] <= moment


def done_by(case, moment, stands):
    return bits_of([becomes_done(telling, moment, stands) for telling in case[3]])


def ways_with(ways, added, due):
    """The same ways, with more done, without those in which something is not done that is due."""
    after = {}
    for ahead, number in ways.items():
        done = ahead | added
        if done & due == due:
            after[done] = after.get(done, 0) + number
    return after


def settled(case, moment, marks):
    """Of marks that tell what was done ahead: those that come at this moment, with what is done there."""
    due = bits_of([must_be_done(telling, moment) for telling in case[3]])
    after = {}
    for stands, ways in marks.items():
        if not any([becomes_false(telling, moment, stands) for telling in case[3]]):
            left = ways_with(ways, done_by(case, moment, stands), due)
            if len(left) > 0:
                after[stands] = left
    return after


def stands_at_places(town, persons):
    found = [()]
    for person in range(persons):
        longer = []
        for stands in found:
            longer.extend([stands + ((place, 0),) for place in range(town[0])])
        found = longer
    return found


def first_marks(case):
    return settled(case, 0, dict([(stands, {0: 1}) for stands in stands_at_places(case[0], case[1])]))


# All stands that a mark can have, also those to which no way leads: a paper may have such marks.
def all_steps(town):
    onward = {}
    for place in range(town[0]):
        for left in range(LONGEST_WAY):
            onward[(place, left)] = steps(town, (place, left))
    return onward


def add_ways(sums, ways):
    for done, number in ways.items():
        sums[done] = sums.get(done, 0) + number


def moved(onward, marks, person):
    """What comes of these marks, if this person alone takes a step."""
    after = {}
    for stands, ways in marks.items():
        for stand in onward[stands[person]]:
            add_ways(after.setdefault(stands[:person] + (stand,) + stands[person + 1:], {}), ways)
    return after


def marks_behind(case, moment, marks):
    """The marks that come at this moment behind these of the moment ahead."""
    onward = all_steps(case[0])
    # One person steps after the other, since ways that meet in between are then gone on with as one.
    for person in range(case[1]):
        marks = moved(onward, marks, person)
    return settled(case, moment, marks)


def marks_of(case):
    found = [first_marks(case)]
    for moment in range(1, case[2] + 1):
        found.append(marks_behind(case, moment, found[-1]))
    return found


def labels_joined(labels, one, other):
    both = (labels[one], labels[other])
    return [min(both) if label in both else label for label in labels]


def persons_with(labels, wanted):
    return [person for person, label in enumerate(labels) if label == wanted]


def groups_of(case):
    # Each person is labelled with the least one that it is known to be tied to, so groups rise as their labels do.
    labels = list(range(case[1]))
    for telling in case[3]:
        if telling[0] in PERSON_WORDS:
            labels = labels_joined(labels, telling[1], telling[2])
    return [persons_with(labels, label) for label in sorted(set(labels))]


def renumbered(telling, group):
    what = group.index(telling[2]) if telling[0] in PERSON_WORDS else telling[2]
    return (telling[0], group.index(telling[1]), what, telling[3], telling[4])


def part_of(case, group):
    tellings = [renumbered(telling, group) for telling in case[3] if telling[1] in group]
    return (case[0], len(group), case[2], tuple(tellings))


def count_ways(marks):
    return sum([sum(ways.values()) for ways in marks.values()])


# This asks not whether it is handed a case: what is asked of a full one takes more tellings than a case may have.
def count_worlds(case):
    product = 1
    # Groups have worlds of their own, and marks of a part are far fewer than those of the whole.
    for group in groups_of(case):
        product = product * count_ways(marks_of(part_of(case, group))[-1])
    return product
