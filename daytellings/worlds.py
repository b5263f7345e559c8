"""A world in which all tellings are true, how many there are, and papers that there is none."""

from daytellings.cases import LONGEST_WAY, demand_case, is_tuple_of, is_whole_within
from daytellings.marks import add_ways, all_steps, bits_of, count_worlds, done_by, first_marks, groups_of
from daytellings.marks import marks_behind, marks_of, part_of, truths_of


def any_mark(marks):
    stands = list(marks)[0]
    return (stands, list(marks[stands])[0])


def is_step(onward, ahead, stands):
    return all([stand in onward[before] for before, stand in zip(ahead, stands)])


def mark_ahead(case, moment, marks, mark):
    """One of these marks, behind which this one comes at this moment."""
    onward = all_steps(case[0])
    added = done_by(case, moment, mark[0])
    fitting = {}
    for stands, ways in marks.items():
        done = [ahead for ahead in ways if ahead | added == mark[1]]
        if len(done) > 0 and is_step(onward, stands, mark[0]):
            fitting[stands] = done
    return any_mark(fitting)


def walk_to(case, found, mark):
    """The stands of all persons at all moments, up to this mark of the last one."""
    walk = [mark[0]]
    for moment in range(case[2], 0, -1):
        mark = mark_ahead(case, moment, found[moment - 1], mark)
        walk = [mark[0]] + walk
    return walk


def day_of(walk, person):
    return tuple([stands[person] for stands in walk])


def days_of_part(case):
    found = marks_of(case)
    if len(found[-1]) == 0:
        return None
    walk = walk_to(case, found, any_mark(found[-1]))
    return [day_of(walk, person) for person in range(case[1])]


def a_world(case):
    demand_case(case)
    days = [None] * case[1]
    for group in groups_of(case):
        part = days_of_part(part_of(case, group))
        if part is None:
            return None
        for person, day in zip(group, part):
            days[person] = day
    return tuple(days)


def how_many(case):
    demand_case(case)
    return count_worlds(case)


def can_be(case):
    return how_many(case) > 0


def listed(marks, length):
    found = []
    for stands, ways in marks.items():
        found.extend([(stands, truths_of(done, length)) for done in ways])
    return sorted(found)


def paper(case):
    if can_be(case):
        return None
    return [listed(marks, len(case[3])) for marks in marks_of(case)]


def is_stand(case, thing):
    return (
        is_tuple_of(thing, 2)
        and is_whole_within(thing[0], 0, case[0][0] - 1)
        and is_whole_within(thing[1], 0, LONGEST_WAY - 1)
    )


def is_mark(case, thing):
    return (
        is_tuple_of(thing, 2)
        and is_tuple_of(thing[0], case[1])
        and all([is_stand(case, stand) for stand in thing[0]])
        and is_tuple_of(thing[1], len(case[3]))
        and all([isinstance(done, bool) for done in thing[1]])
    )


def are_marks(case, thing):
    return isinstance(thing, list) and all([is_mark(case, mark) for mark in thing])


def are_marks_of_all_moments(case, thing):
    return isinstance(thing, list) and len(thing) == case[2] + 1 and all([are_marks(case, part) for part in thing])


def gathered(marks):
    found = {}
    for stands, done in marks:
        ways = found.setdefault(stands, {})
        ways[bits_of(done)] = 1
    return found


def has_all(marks, wanted):
    for stands, ways in wanted.items():
        there = marks.get(stands, {})
        if not all([done in there for done in ways]):
            return False
    return True


def is_paper(case, thing):
    demand_case(case)
    if not are_marks_of_all_moments(case, thing) or len(thing[-1]) > 0:
        return False
    wanted = first_marks(case)
    for moment, part in enumerate(thing):
        marks = gathered(part)
        if not has_all(marks, wanted):
            return False
        wanted = marks_behind(case, moment + 1, marks, add_ways)
    return True
