"""What tellings ask: how they part worlds, and which answers there are."""

from daytellings.cases import MOST_TELLINGS, PERSON_WORDS, demand_case, demand_telling, opposite
from daytellings.errors import NoTelling
from daytellings.holding import ONCE_WORDS
from daytellings.marks import bits_of, count_worlds, decides, notes_of, renumbered, tied_to, truths_of
from daytellings.surely import count_with


def demand_tellings(case, thing):
    if not isinstance(thing, (list, tuple)) or len(thing) > MOST_TELLINGS:
        raise NoTelling("this is no list or tuple of tellings, or there are too many")
    for telling in thing:
        demand_telling(case, telling)


def parts_of(case, every, telling):
    # Marks are fewer with one of never and apart than with its opposite, which must be done at some moment.
    if telling[0] in ONCE_WORDS:
        untrue = count_with(case, opposite(telling))
        return (every - untrue, untrue)
    true = count_with(case, telling)
    return (true, every - true)


def parts(case, telling):
    demand_case(case)
    demand_telling(case, telling)
    return parts_of(case, count_worlds(case), telling)


def persons_of(tellings):
    found = [telling[1] for telling in tellings]
    return found + [telling[2] for telling in tellings if telling[0] in PERSON_WORDS]


def all_settings(length):
    """All tuples of True or False of this length; True in the place of False lies 1, 2, 4 .. further behind."""
    settings = [()]
    for number in range(length):
        undecided = [setting + (False,) for setting in settings]
        settings = undecided + [setting + (True,) for setting in settings]
    return settings


# Notes have a bit for each setting of which tellings are decided. For each telling: the bits of the settings in which
# it is undecided, and the number that makes of each of these the bit of that in which it is decided.
def turns_of(settings, length):
    turns = []
    times = 2
    for number in range(length):
        turns.append((bits_of([not setting[number] for setting in settings]), times))
        times = times * times
    return turns


def turned(note, turns):
    for undecided, times in turns:
        moving = note & undecided
        note = (note - moving) | (moving * times)
    return note


def answer_of(tellings, setting):
    return tuple([decided == (telling[0] in ONCE_WORDS) for telling, decided in zip(tellings, setting)])


def answers(case, some):
    demand_case(case)
    demand_tellings(case, some)
    group = tied_to(case, persons_of(some))
    asked = [renumbered(telling, group) for telling in some]
    settings = all_settings(len(some))
    turns = turns_of(settings, len(some))

    def noting(moment, stands, notes):
        now = [turn for telling, turn in zip(asked, turns) if decides(telling, moment, stands)]
        return dict([(done, turned(note, now)) for done, note in notes.items()])

    noted = truths_of(notes_of(case, group, noting), len(settings))
    return sorted([answer_of(some, setting) for setting, found in zip(settings, noted) if found])


def tells_all(case, some):
    return len(answers(case, some)) == count_worlds(case)


def best_question(case, some):
    demand_case(case)
    demand_tellings(case, some)
    every = count_worlds(case)
    lesser = [min(parts_of(case, every, telling)) for telling in some]
    return lesser.index(max(lesser)) if len(lesser) > 0 else None
