"""Marks, how they come from moment to moment, and in how many ways; the groups of persons who are tied.

The marks of a moment are held as a dict of dicts: for all stands, and for all that is done there, in how many ways
this comes. What is done is held as a whole number, with a bit for each telling, since most marks share their stands.
Where notes are taken, they stand in the place of the number of ways: a whole number, with a bit for each thing noted
on some way to the mark.
"""

from daytellings.cases import LONGEST_WAY, PERSON_WORDS
from daytellings.days import steps
from daytellings.holding import ONCE_WORDS, is_so


def bits_of(truths):
    bits = 0
    weight = 1
    for truth in truths:
        if truth:
            bits = bits + weight
        weight = weight * 2
    return bits


def truths_of(bits, length):
    truths = []
    for number in range(length):
        truths.append(bits % 2 == 1)
        bits = bits // 2
    return tuple(truths)


def speaks_of(telling, moment):
    return telling[3] <= moment <= telling[4]


def decides(telling, moment, stands):
    """Whether this moment decides a telling: by it one of seen and met is true, one of the other words false."""
    return speaks_of(telling, moment) and is_so(telling, stands) != (telling[0] == "there")


def becomes_done(telling, moment, stands):
    return telling[0] in ONCE_WORDS and decides(telling, moment, stands)


def becomes_false(telling, moment, stands):
    return telling[0] not in ONCE_WORDS and decides(telling, moment, stands)


def must_be_done(telling, moment):
    return telling[0] in ONCE_WORDS and telling[4] <= moment


def done_by(case, moment, stands):
    return bits_of([becomes_done(telling, moment, stands) for telling in case[3]])


def add_ways(sums, ways):
    for done, number in ways.items():
        sums[done] = sums.get(done, 0) + number


def join_notes(joined, notes):
    for done, note in notes.items():
        joined[done] = joined.get(done, 0) | note


def ways_with(ways, added, due, joining):
    """The same ways, with more done, without those in which something is not done that is due."""
    after = {}
    for ahead, number in ways.items():
        done = ahead | added
        if done & due == due:
            joining(after, {done: number})
    return after


def settled(case, moment, marks, joining):
    """Of marks that tell what was done ahead: those that come at this moment, with what is done there."""
    due = bits_of([must_be_done(telling, moment) for telling in case[3]])
    after = {}
    for stands, ways in marks.items():
        if not any([becomes_false(telling, moment, stands) for telling in case[3]]):
            left = ways_with(ways, done_by(case, moment, stands), due, joining)
            if len(left) > 0:
                after[stands] = left
    return after


def stands_at_places(town, persons):
    found = [()]
    for person in range(persons):
        longer = []
        for stands in found:
            longer.extend([stands + ((place, 0),) for place in range(town[0])])
        found = longer
    return found


def first_marks(case):
    return settled(case, 0, dict([(stands, {0: 1}) for stands in stands_at_places(case[0], case[1])]), add_ways)


# All stands that a mark can have, also those to which no way leads: a paper may have such marks.
def all_steps(town):
    onward = {}
    for place in range(town[0]):
        for left in range(LONGEST_WAY):
            onward[(place, left)] = steps(town, (place, left))
    return onward


def moved(onward, marks, person, joining):
    """What comes of these marks, if this person alone takes a step."""
    after = {}
    for stands, ways in marks.items():
        for stand in onward[stands[person]]:
            joining(after.setdefault(stands[:person] + (stand,) + stands[person + 1:], {}), ways)
    return after


def marks_behind(case, moment, marks, joining):
    """The marks that come at this moment behind these of the moment ahead; joining puts ways to one mark together."""
    onward = all_steps(case[0])
    # One person steps after the other, since ways that meet in between are then gone on with as one.
    for person in range(case[1]):
        marks = moved(onward, marks, person, joining)
    return settled(case, moment, marks, joining)


def marks_of(case):
    found = [first_marks(case)]
    for moment in range(1, case[2] + 1):
        found.append(marks_behind(case, moment, found[-1], add_ways))
    return found


def labels_joined(labels, one, other):
    both = (labels[one], labels[other])
    return [min(both) if label in both else label for label in labels]


def persons_with(labels, wanted):
    return [person for person, label in enumerate(labels) if label == wanted]


def groups_of(case):
    # Each person is labelled with the least one that it is known to be tied to, so groups rise as their labels do.
    labels = list(range(case[1]))
    for telling in case[3]:
        if telling[0] in PERSON_WORDS:
            labels = labels_joined(labels, telling[1], telling[2])
    return [persons_with(labels, label) for label in sorted(set(labels))]


def renumbered(telling, group):
    what = group.index(telling[2]) if telling[0] in PERSON_WORDS else telling[2]
    return (telling[0], group.index(telling[1]), what, telling[3], telling[4])


def part_of(case, group):
    tellings = [renumbered(telling, group) for telling in case[3] if telling[1] in group]
    return (case[0], len(group), case[2], tuple(tellings))


def count_ways(marks):
    return sum([sum(ways.values()) for ways in marks.values()])


# This asks not whether it is handed a case: what is asked of a full one takes more tellings than a case may have.
def count_worlds(case):
    product = 1
    # Groups have worlds of their own, and marks of a part are far fewer than those of the whole.
    for group in groups_of(case):
        product = product * count_ways(marks_of(part_of(case, group))[-1])
    return product


def tied_to(case, persons):
    """All who are tied to one of these persons, and these themselves."""
    found = []
    for group in groups_of(case):
        if any([person in group for person in persons]):
            found.extend(group)
    return found


def with_notes(marks, moment, noting):
    return dict([(stands, noting(moment, stands, notes)) for stands, notes in marks.items()])


def notes_of_part(case, noting):
    marks = with_notes(first_marks(case), 0, noting)
    for moment in range(1, case[2] + 1):
        marks = with_notes(marks_behind(case, moment, marks, join_notes), moment, noting)
    found = 0
    for notes in marks.values():
        for note in notes.values():
            found = found | note
    return found


def notes_of(case, group, noting):
    """All that is noted in some world, by the stands of these persons, who are tied to no others.

    Notes begin with the least bit alone; noting(moment, stands, notes) tells them anew at each mark that comes. Marks
    that lead to no world are lost on the way, with their notes. Without any world 0 is told.
    """
    # Persons of other groups may have no world of their own, and then there is none.
    if count_worlds(case) == 0:
        return 0
    return notes_of_part(part_of(case, group), noting)
