import itertools
import unittest

from ladderhall.errors import NoPlace, NoStep
from ladderhall.paths import brought, by_paths, goals_of, path_to, places_reached, states
from ladderhall.solving import least
from tests.samples import (
    DIAMOND, DOWNWARD_CHAIN, ODD_DIAMOND, ONE, are_leq, chain, copied, great_charts, great_spreading_charts,
    joined_told, least_found, lowest_told, same, small_charts, spreading_charts,
)

THREE = chain(3)
FIVE = chain(5)
UP = (1, 2, 2)
PLAIN = (0, 1, 2)
FIVE_UP = (1, 2, 3, 4, 4)
# Two ways from place 0 to place 1, one from there to itself, none to or from place 2.
FORK = (3, ((0, 1, PLAIN), (0, 1, UP), (1, 1, PLAIN)), ((0, 1), (2, 2)))


def starts_of(chart):
    places = [("place", number) for number in range(chart[0])]
    return places + [("begin", number) for number in range(len(chart[2]))]


def no_starts_of(chart):
    """Tuples of a text and a whole number with which no path of the chart starts."""
    places, begins = chart[0], len(chart[2])
    return [
        ("place", -1), ("place", places), ("place", places + 1), ("place", -places), ("place", 10 ** 30),
        ("begin", -1), ("begin", begins), ("begin", begins + 1), ("begin", -begins - 1), ("begin", -10 ** 30),
        ("way", 0), ("", 0), ("Place", 0), ("BEGIN", 0), ("places", 0), ("begin ", 0), (" place", 0), ("p", 0),
    ]


def state_of(ladder, chart, start):
    name, number = start
    return (number, lowest_told(ladder, chart)[0]) if name == "place" else chart[2][number]


def fewest_ways(ladder, chart):
    """For each tuple of place and worth to which paths lead the fewest ways, by sets of those of so many ways."""
    fewest = {}
    layer = {state_of(ladder, chart, start) for start in starts_of(chart)}
    for many in range(chart[0] * len(ladder) + 1):
        for state in layer:
            fewest.setdefault(state, many)
        layer = {(goal, rule[worth]) for place, worth in layer for start, goal, rule in chart[1] if start == place}
    return fewest


def reached_told(chart, place):
    """All places that are reached, by squaring the chart's own table of goals."""
    table = {(start, goal) for start, goal, rule in chart[1]} | {(x, x) for x in range(chart[0])}
    for middle, x, y in itertools.product(range(chart[0]), repeat=3):
        if (x, middle) in table and (middle, y) in table:
            table.add((x, y))
    return sorted(goal for start, goal in table if start == place)


class StatesTest(unittest.TestCase):
    """5.1"""

    def test_small_and_great_charts(self):
        for ladder, chart in itertools.chain(small_charts(), great_charts(turns=1)):
            told = states(ladder, chart)
            self.assertTrue(same(told, sorted(fewest_ways(ladder, chart))), (ladder, chart))

    def test_by_hand(self):
        self.assertTrue(same(states(THREE, (1, (), ())), [(0, 0)]))
        self.assertTrue(same(states(THREE, (2, (), ((1, 2), (1, 1), (1, 2)))), [(0, 0), (1, 0), (1, 1), (1, 2)]))
        self.assertTrue(same(states(THREE, FORK), [(0, 0), (0, 1), (1, 0), (1, 1), (1, 2), (2, 0), (2, 2)]))
        self.assertTrue(same(states(FIVE, (1, ((0, 0, FIVE_UP),), ())), [(0, x) for x in range(5)]))
        self.assertTrue(same(states(DOWNWARD_CHAIN, (2, ((1, 0, (0, 0, 1, 2)),), ())), [(0, 2), (0, 3), (1, 3)]))
        self.assertTrue(same(states(ONE, (2, ((0, 1, (0,)),), ((0, 0),))), [(0, 0), (1, 0)]))

    def test_worths_are_not_joined(self):
        chart = (2, ((0, 1, (0, 1, 2, 3)),), ((0, 1), (0, 2)))
        self.assertEqual(states(DIAMOND, chart), [(0, 0), (0, 1), (0, 2), (1, 0), (1, 1), (1, 2)])

    def test_told_lists_are_new_ones(self):
        first = states(THREE, FORK)
        kept = copied(first)
        first.append((9, 9))
        first.pop(0)
        self.assertEqual(states(THREE, FORK), kept)


class BroughtTest(unittest.TestCase):
    """5.2"""

    def test_all_short_paths(self):
        for ladder, chart in small_charts(turns=1):
            for start in starts_of(chart):
                self.check_paths(ladder, chart, start, [], 3)

    def check_paths(self, ladder, chart, start, ways, many):
        place, worth = state_of(ladder, chart, start)
        for number in ways:
            begin, goal, rule = chart[1][number]
            self.assertEqual(begin, place)
            place, worth = goal, rule[worth]
        before = copied(ways)
        self.assertTrue(same(brought(ladder, chart, start, ways), (place, worth)))
        self.assertTrue(same(ways, before))
        if many:
            for number, way in enumerate(chart[1]):
                if way[0] == place:
                    self.check_paths(ladder, chart, start, ways + [number], many - 1)
                else:
                    self.assertRaises(NoStep, brought, ladder, chart, start, ways + [number])

    def test_no_ways(self):
        self.assertTrue(same(brought(THREE, FORK, ("place", 1), []), (1, 0)))
        self.assertTrue(same(brought(THREE, FORK, ("begin", 1), []), (2, 2)))
        self.assertTrue(same(brought(DOWNWARD_CHAIN, (1, (), ()), ("place", 0), []), (0, 3)))

    def test_by_hand(self):
        self.assertTrue(same(brought(THREE, FORK, ("place", 0), [0]), (1, 0)))
        self.assertTrue(same(brought(THREE, FORK, ("place", 0), [1]), (1, 1)))
        self.assertTrue(same(brought(THREE, FORK, ("begin", 0), [1, 2, 2]), (1, 2)))
        loop = (1, ((0, 0, FIVE_UP),), ((0, 2),))
        self.assertTrue(same(brought(FIVE, loop, ("place", 0), [0, 0, 0]), (0, 3)))
        self.assertTrue(same(brought(FIVE, loop, ("begin", 0), [0] * 50), (0, 4)))

    def test_the_path_brings_its_own_worth_alone(self):
        chart = (2, ((0, 1, (0, 1, 2, 3)),), ((0, 1), (0, 2), (1, 2)))
        self.assertTrue(same(brought(DIAMOND, chart, ("begin", 0), [0]), (1, 1)))

    def test_no_such_start(self):
        for ladder, chart in itertools.chain(small_charts(turns=1), [(THREE, FORK)]):
            for start in no_starts_of(chart):
                if start not in starts_of(chart):
                    with self.subTest(chart=chart, start=start):
                        self.assertRaises(NoStep, brought, ladder, chart, start, [])
                        self.assertRaises(NoStep, brought, ladder, chart, start, [0])

    def test_ways_that_do_not_go_on(self):
        wrong = [[2], [-1], [3], [4], [10 ** 30], [0, 0], [0, 1], [1, 2, 0], [0, 2, -1], [0, 2, 3], [0, -3], [-3]]
        for ways in wrong:
            with self.subTest(ways=ways):
                before = copied(ways)
                self.assertRaises(NoStep, brought, THREE, FORK, ("place", 0), ways)
                self.assertRaises(NoStep, brought, THREE, FORK, ("begin", 0), ways)
                self.assertTrue(same(ways, before))
        self.assertRaises(NoStep, brought, THREE, FORK, ("begin", 1), [0])
        self.assertRaises(NoStep, brought, THREE, FORK, ("place", 2), [2])
        self.assertRaises(NoStep, brought, THREE, (1, (), ()), ("place", 0), [0])
        self.assertRaises(NoStep, brought, THREE, (1, (), ()), ("place", 0), [-1])


class PathToTest(unittest.TestCase):
    """5.2"""

    def check(self, ladder, chart):
        fewest = fewest_ways(ladder, chart)
        for place, worth in itertools.product(range(-1, chart[0] + 1), range(-1, len(ladder) + 1)):
            told = path_to(ladder, chart, place, worth)
            if (place, worth) not in fewest:
                self.assertIsNone(told)
                continue
            self.assertIsInstance(told, tuple)
            start, ways = told
            self.assertIn(start, starts_of(chart))
            self.assertIsInstance(ways, list)
            self.assertTrue(same(brought(ladder, chart, start, ways), (place, worth)))
            self.assertEqual(len(ways), fewest[place, worth], (ladder, chart, told))

    def test_small_charts(self):
        for ladder, chart in small_charts():
            self.check(ladder, chart)

    def test_a_long_ring(self):
        ring = tuple((x, (x + 1) % 8, tuple(min(y + 1, 15) for y in range(16))) for x in range(8))
        self.check(chain(16), (8, ring, ((3, 5),)))
        self.assertTrue(same(path_to(chain(16), (8, ring, ()), 7, 9), (("place", 6), [6, 7, 0, 1, 2, 3, 4, 5, 6])))

    def test_by_hand(self):
        self.assertTrue(same(path_to(THREE, FORK, 1, 0), (("place", 1), [])))
        self.assertTrue(same(path_to(THREE, FORK, 1, 2), (("begin", 0), [1])))
        self.assertTrue(same(path_to(THREE, FORK, 2, 2), (("begin", 1), [])))
        self.assertIn(path_to(THREE, FORK, 1, 1), [(("place", 0), [1]), (("begin", 0), [0])])
        self.assertTrue(same(path_to(FIVE, (1, ((0, 0, FIVE_UP),), ()), 0, 3), (("place", 0), [0, 0, 0])))

    def test_no_path(self):
        self.assertIsNone(path_to(THREE, FORK, 0, 2))
        self.assertIsNone(path_to(THREE, FORK, 2, 1))
        self.assertIsNone(path_to(DIAMOND, (1, (), ((0, 1), (0, 2))), 0, 3))

    def test_told_paths_are_new_ones(self):
        first = path_to(THREE, FORK, 1, 2)
        first[1].append(99)
        path_to(THREE, FORK, 1, 0)[1].append(99)
        self.assertTrue(same(path_to(THREE, FORK, 1, 2), (("begin", 0), [1])))
        self.assertTrue(same(path_to(THREE, FORK, 1, 0), (("place", 1), [])))


class PlacesTest(unittest.TestCase):
    """5.3"""

    def test_small_and_great_charts(self):
        for ladder, chart in itertools.chain(small_charts(turns=1), great_charts(turns=1)):
            for place in range(chart[0]):
                goals = sorted({goal for start, goal, rule in chart[1] if start == place})
                self.assertTrue(same(goals_of(chart, place), goals))
                self.assertTrue(same(places_reached(chart, place), reached_told(chart, place)))

    def test_by_hand(self):
        chart = (5, ((3, 2, PLAIN), (3, 0, UP), (3, 2, PLAIN), (0, 3, PLAIN), (2, 1, PLAIN), (4, 4, UP)), ((0, 1),))
        self.assertTrue(same([goals_of(chart, x) for x in range(5)], [[3], [], [1], [0, 2], [4]]))
        wanted = [[0, 1, 2, 3], [1], [1, 2], [0, 1, 2, 3], [4]]
        self.assertTrue(same([places_reached(chart, x) for x in range(5)], wanted))

    def test_a_long_way(self):
        ring = tuple((x, (x + 7) % 8, PLAIN) for x in range(8))
        self.assertEqual(places_reached((8, ring, ()), 3), list(range(8)))
        self.assertEqual(places_reached((8, ring[1:], ()), 3), [0, 1, 2, 3])

    def test_no_ways(self):
        self.assertTrue(same(goals_of((1, (), ()), 0), []))
        self.assertTrue(same(places_reached((1, (), ()), 0), [0]))

    def test_no_place(self):
        for ladder, chart in itertools.chain(small_charts(turns=1), [(THREE, FORK)]):
            for place in (-1, chart[0], chart[0] + 1, -chart[0], 10 ** 30, -10 ** 30):
                with self.subTest(chart=chart, place=place):
                    self.assertRaises(NoPlace, goals_of, chart, place)
                    self.assertRaises(NoPlace, places_reached, chart, place)

    def test_told_lists_are_new_ones(self):
        for tell in (goals_of, places_reached):
            for place in (0, 1, 2):
                first = tell(FORK, place)
                kept = copied(first)
                first.append(99)
                self.assertEqual(tell(FORK, place), kept)


class ByPathsTest(unittest.TestCase):
    """5.4 and 0.2 (d)"""

    def test_joins_of_what_paths_bring(self):
        for ladder, chart in itertools.chain(small_charts(), great_charts(turns=1)):
            ends = sorted(fewest_ways(ladder, chart))
            wanted = tuple(
                joined_told(ladder, [worth for end, worth in ends if end == place]) for place in range(chart[0])
            )
            self.assertTrue(same(by_paths(ladder, chart), wanted))

    def test_no_path_brings_more_than_the_least_answer(self):
        for ladder, chart in itertools.chain(small_charts(), great_charts(turns=1)):
            self.assertTrue(are_leq(ladder, by_paths(ladder, chart), least(ladder, chart)))

    def test_where_all_rules_spread_they_bring_it(self):
        for ladder, chart in spreading_charts():
            self.assertTrue(same(by_paths(ladder, chart), least_found(ladder, chart)))
        for ladder, chart in great_spreading_charts(turns=1):
            self.assertTrue(same(by_paths(ladder, chart), least(ladder, chart)))

    def test_less_where_a_rule_only_rises(self):
        chart = (2, ((0, 1, (0, 0, 0, 3)),), ((0, 1), (0, 2)))
        self.assertTrue(same(by_paths(DIAMOND, chart), (3, 0)))
        self.assertTrue(same(least(DIAMOND, chart), (3, 3)))

    def test_by_hand(self):
        self.assertTrue(same(by_paths(THREE, FORK), (1, 2, 2)))
        self.assertTrue(same(by_paths(ODD_DIAMOND, (2, (), ())), (2, 2)))
        self.assertTrue(same(by_paths(FIVE, (1, ((0, 0, FIVE_UP),), ())), (4,)))
