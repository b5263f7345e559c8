"""[1.1]: is_town and far."""

import itertools
import unittest

from daytellings.cases import is_town
from daytellings.days import far, steps
from things import NEVER_RIGHT, TOWN, spoilt

FULL_TOWN = (5, tuple((one, other, 1 + (one + other) % 4)
                      for one in range(5) for other in range(one + 1, 5)))


def towns_of(places):
    """All towns with so many places."""
    pairs = list(itertools.combinations(range(places), 2))
    for times in itertools.product(range(5), repeat=len(pairs)):
        yield (places, tuple(pair + (time,) for pair, time in zip(pairs, times) if time))


class IsTown(unittest.TestCase):
    def holds(self, *things):
        for thing in things:
            self.assertIs(is_town(thing), True, thing)

    def fails(self, *things):
        for thing in things:
            self.assertIs(is_town(thing), False, thing)

    def test_ordinary_towns(self):
        self.holds(TOWN, FULL_TOWN, (2, ((0, 1, 2),)), (4, ((0, 3, 1), (1, 2, 4))))

    def test_every_town_of_three_places(self):
        self.holds(*towns_of(3))

    def test_number_of_places(self):
        self.holds((1, ()), (5, ()))
        self.fails((-1, ()), (0, ()), (6, ()), (7, ()))

    def test_time_of_a_way(self):
        self.holds((2, ((0, 1, 1),)), (2, ((0, 1, 4),)))
        self.fails((2, ((0, 1, -1),)), (2, ((0, 1, 0),)), (2, ((0, 1, 5),)))

    def test_ends_of_a_way(self):
        self.holds((5, ((0, 4, 1),)), (5, ((3, 4, 1),)))
        self.fails((3, ((1, 1, 1),)), (3, ((0, 0, 1),)), (3, ((2, 1, 1),)), (3, ((1, 0, 1),)))
        self.fails((3, ((0, 3, 1),)), (3, ((3, 4, 1),)), (3, ((-1, 0, 1),)), (3, ((-2, -1, 1),)))
        self.fails((1, ((0, 1, 1),)), (1, ((0, 0, 1),)))

    def test_no_two_ways_between_the_same_places(self):
        self.fails((2, ((0, 1, 1), (0, 1, 1))), (2, ((0, 1, 1), (0, 1, 2))), (2, ((0, 1, 2), (0, 1, 1))))
        self.fails((3, ((0, 1, 1), (0, 2, 1), (0, 2, 3))), (2, ((0, 1, 1), (1, 0, 2))))

    def test_ways_rise(self):
        self.fails((3, ((0, 2, 1), (0, 1, 1))), (3, ((1, 2, 1), (0, 1, 1))), (3, ((0, 1, 1), (1, 2, 1), (0, 2, 1))))

    def test_times_need_not_rise(self):
        self.holds((3, ((0, 1, 4), (0, 2, 3), (1, 2, 1))))

    def test_numbers_of_parts(self):
        self.fails((), (2,), (2, (), ()), (2, ((0, 1),)), (2, ((0, 1, 1, 1),)), (2, ((),)), (2, (0, 1, 1)))

    def test_any_thing_is_taken(self):
        self.fails(0, 1, *NEVER_RIGHT)
        self.fails(*spoilt(TOWN))
        self.fails(*spoilt((1, ())))

    def test_truths_are_no_numbers(self):
        self.fails((True, ()), (2, ((0, True, 1),)), (2, ((False, 1, 1),)), (2, ((0, 1, True),)))

    def test_what_is_handed_in_is_not_changed(self):
        thing = [2, [[0, 1, 1]]]
        mixed = (2, [[0, 1, 1]])
        is_town(thing)
        is_town(mixed)
        self.assertEqual(thing, [2, [[0, 1, 1]]])
        self.assertEqual(mixed, (2, [[0, 1, 1]]))


def moments_by_walking(town, start):
    """The first moment at which somebody from this place can be at each."""
    found = [None] * town[0]
    stands = {(start, 0)}
    # The longest walk that comes to no place twice is over by then.
    for moment in range(5 * town[0] + 1):
        for place, left in stands:
            if left == 0 and found[place] is None:
                found[place] = moment
        stands = {step for stand in stands for step in steps(town, stand)}
    return tuple(found)


def shortest_of_all_orders(town, start, goal):
    """The fewest moments over all orders of places, each at most once."""
    time = {}
    for one, other, takes in town[1]:
        time[one, other] = time[other, one] = takes
    between = [place for place in range(town[0]) if place not in (start, goal)]
    sums = [0] if start == goal else []
    for length in range(len(between) + 1):
        for middle in itertools.permutations(between, length):
            walk = (start,) + middle + (goal,)
            legs = [time.get(leg) for leg in zip(walk, walk[1:])]
            if None not in legs:
                sums.append(sum(legs))
    return min(sums, default=None)


class Far(unittest.TestCase):
    def test_ordinary_towns(self):
        self.assertEqual(far((2, ((0, 1, 3),))), ((0, 3), (3, 0)))
        self.assertEqual(far(TOWN), ((0, 1, 3), (1, 0, 2), (3, 2, 0)))

    def test_a_way_round_can_be_shorter(self):
        self.assertEqual(far((3, ((0, 1, 1), (0, 2, 4), (1, 2, 2)))), ((0, 1, 3), (1, 0, 2), (3, 2, 0)))
        self.assertEqual(far((4, ((0, 1, 4), (0, 3, 1), (1, 2, 1), (2, 3, 1)))),
                         ((0, 3, 2, 1), (3, 0, 1, 2), (2, 1, 0, 1), (1, 2, 1, 0)))

    def test_ways_lead_both_ways_over_many_places(self):
        town = (5, ((0, 4, 4), (1, 3, 4), (1, 4, 4), (2, 3, 4)))
        self.assertEqual(far(town)[0], (0, 8, 16, 12, 4))
        self.assertEqual(far(town)[2], (16, 8, 0, 4, 12))

    def test_places_between_which_no_ways_lead(self):
        self.assertEqual(far((2, ())), ((0, None), (None, 0)))
        self.assertEqual(far((4, ((0, 2, 2), (1, 3, 1)))),
                         ((0, None, 2, None), (None, 0, None, 1), (2, None, 0, None), (None, 1, None, 0)))

    def test_one_place(self):
        self.assertEqual(far((1, ())), ((0,),))

    def test_all_orders_of_places(self):
        for town in [*towns_of(3), *itertools.islice(towns_of(4), 0, None, 37), FULL_TOWN]:
            expected = tuple(tuple(shortest_of_all_orders(town, start, goal) for goal in range(town[0]))
                             for start in range(town[0]))
            self.assertEqual(far(town), expected, town)

    def test_it_takes_as_long_as_walking_by_steps(self):
        for town in [*towns_of(3), FULL_TOWN]:
            expected = tuple(moments_by_walking(town, start) for start in range(town[0]))
            self.assertEqual(far(town), expected, town)

    def test_it_is_made_of_tuples_and_whole_numbers(self):
        rows = far((3, ((0, 1, 1),)))
        self.assertIs(type(rows), tuple)
        for row in rows:
            self.assertIs(type(row), tuple)
            self.assertTrue(all(part is None or type(part) is int for part in row))

    def test_somewhat_beyond_the_bounds_nothing_is_refused(self):
        self.assertEqual(far((2, ((0, 1, 5),))), ((0, 5), (5, 0)))
        line = (7, tuple((place, place + 1, 1) for place in range(6)))
        self.assertEqual(far(line)[6], (6, 5, 4, 3, 2, 1, 0))


if __name__ == "__main__":
    unittest.main()
