import itertools
import unittest

from ladderhall.ceilings import demands, greatest, is_under
from ladderhall.charts import is_answer, is_chart
from ladderhall.errors import NoPlace
from ladderhall.maps import mapped_chart
from ladderhall.paths import brought, by_paths, goals_of, path_to, places_reached, states
from ladderhall.shortening import joined_ways, without_place, without_places
from ladderhall.solving import gone, is_least_at, is_paper, least, least_by, lowest, missing, paper_for
from tests.samples import (
    DIAMOND, DOWNWARD_CHAIN, ODD_DIAMOND, ONE, are_leq, chain, copied, great_charts, great_spreading_charts,
    is_rising, is_spreading, joined_told, least_among, least_risen, leq, lowest_told, same, small_charts,
    spreading_charts, steps_of,
)

THREE = chain(3)
FIVE = chain(5)
UP = (1, 2, 2)
DOWN = (0, 0, 1)
PLAIN = (0, 1, 2)
# Ways to place 1, from it, and from it to itself; one past it; begins at all places.
FORK = (
    4, ((0, 1, DOWN), (3, 1, PLAIN), (1, 1, PLAIN), (1, 2, UP), (1, 0, PLAIN), (0, 2, PLAIN), (2, 2, DOWN)),
    ((0, 1), (1, 2), (2, 0), (3, 1), (1, 0)),
)
# 7 places, from each of which each worth comes to place 7 and goes on from there to each of them.
STAR = (
    8,
    tuple((x, 7, (y,) * 16) for x in range(7) for y in (1, 4, 9, 15))
    + tuple((7, x, chain(16)[x]) for x in range(7)),
    tuple((7, y) for y in range(16)),
)


def loop_told(ladder, chart, place):
    """For each worth the least one that is no less, and that no way from the place to itself leads to more."""
    rules = [rule for start, goal, rule in chart[1] if start == goal == place]
    worths = range(len(ladder))
    kept = [y for y in worths if all(leq(ladder, rule[y], y) for rule in rules)]
    return [least_among(ladder, [y for y in kept if leq(ladder, x, y)]) for x in worths]


def without_told(ladder, chart, place):
    """The places, and the ways and begins as sets, of the chart without this place, as 8.1 words it."""
    places, ways, begins = chart
    loop = loop_told(ladder, chart, place)
    kept_ways = {way for way in ways if way[0] != place and way[1] != place}
    kept_begins = {begin for begin in begins if begin[0] != place}
    lowest_worth = lowest_told(ladder, chart)[0]
    for start, goal, rule in ways:
        if start == place and goal != place:
            for ahead, into, first in ways:
                if into == place and ahead != place:
                    kept_ways.add((ahead, goal, tuple(rule[loop[worth]] for worth in first)))
            kept_begins.add((goal, rule[loop[lowest_worth]]))
            kept_begins |= {(goal, rule[loop[worth]]) for begin, worth in begins if begin == place}
    return places, kept_ways, kept_begins


def joined_ways_told(ladder, chart):
    places, ways, begins = chart
    rules, worths = {}, {}
    for start, goal, rule in ways:
        rules.setdefault((start, goal), []).append(rule)
    for place, worth in begins:
        worths.setdefault(place, []).append(worth)
    joined = tuple(
        (start, goal, tuple(joined_told(ladder, led) for led in zip(*rules[start, goal])))
        for start, goal in sorted(rules)
    )
    return places, joined, tuple((place, joined_told(ladder, worths[place])) for place in sorted(worths))


def places_left_out(chart):
    """Lists of places: none, each one, several in several orders, all but one, all."""
    places = list(range(chart[0]))
    return [[], *[[x] for x in places], places[1:], places[::-1][1:], places[::2], places, places[::-1]]


def at_others(worths, left_out):
    return tuple(worth for place, worth in enumerate(worths) if place not in left_out)


class WithoutPlaceTest(unittest.TestCase):
    """8.1"""

    def check(self, ladder, chart):
        for place in range(chart[0]):
            told = without_place(ladder, chart, place)
            self.assertIsInstance(told, tuple)
            places, ways, begins = told
            wanted = without_told(ladder, chart, place)
            self.assertTrue(same(places, wanted[0]))
            self.assertIsInstance(ways, tuple)
            self.assertIsInstance(begins, tuple)
            self.assertTrue(same(sorted(set(ways)), sorted(wanted[1])), (ladder, chart, place))
            self.assertTrue(same(sorted(set(begins)), sorted(wanted[2])), (ladder, chart, place))

    def test_small_charts(self):
        for ladder, chart in small_charts():
            self.check(ladder, chart)

    def test_rules_that_spread(self):
        for ladder, chart in spreading_charts(turns=3):
            self.check(ladder, chart)

    def test_greater_charts(self):
        for ladder, chart in great_charts(turns=1):
            self.check(ladder, chart)

    def test_made_rules_rise_and_spread_where_the_others_do(self):
        for (ladder, chart), is_so in itertools.chain(
            zip(small_charts(turns=2), itertools.repeat(is_rising)),
            zip(spreading_charts(turns=2), itertools.repeat(is_spreading)),
        ):
            for place in range(chart[0]):
                told = without_place(ladder, chart, place)
                self.assertTrue(all(is_so(ladder, rule) for start, goal, rule in told[1]))
                self.assertIs(is_chart(ladder, told), True)

    def test_by_hand(self):
        places, ways, begins = without_place(THREE, FORK, 1)
        self.assertEqual(places, 4)
        wanted = {(0, 2, PLAIN), (2, 2, DOWN), (0, 2, (1, 1, 2)), (0, 0, DOWN), (3, 2, UP), (3, 0, PLAIN)}
        self.assertEqual(set(ways), wanted)
        self.assertEqual(set(begins), {(0, 1), (2, 0), (3, 1), (2, 1), (2, 2), (0, 0), (0, 2)})

    def test_a_loop_of_several_ways(self):
        loops = ((1, 1, (0, 2, 2, 3, 4)), (1, 1, (0, 1, 3, 3, 4)))
        chart = (3, ((0, 1, (0, 1, 2, 3, 4)), *loops, (1, 2, (0, 1, 2, 3, 4))), ((1, 4),))
        places, ways, begins = without_place(FIVE, chart, 1)
        self.assertEqual((places, set(ways)), (3, {(0, 2, (0, 3, 3, 3, 4))}))
        self.assertEqual(set(begins), {(2, 0), (2, 4)})

    def test_a_loop_that_raises_the_least_worth(self):
        chart = (2, ((1, 1, (1, 1, 2)), (1, 0, PLAIN)), ())
        places, ways, begins = without_place(THREE, chart, 1)
        self.assertEqual((places, ways, set(begins)), (2, (), {(0, 1)}))

    def test_first_the_way_in_then_the_loop_then_the_way_out(self):
        chart = (3, ((0, 1, (0, 2, 2)), (1, 1, (0, 1, 2)), (1, 2, (0, 0, 1))), ())
        self.assertEqual(set(without_place(THREE, chart, 1)[1]), {(0, 2, (0, 1, 1))})
        chart = (3, ((0, 1, (0, 0, 1)), (1, 1, (0, 2, 2)), (1, 2, (0, 0, 1))), ())
        self.assertEqual(set(without_place(THREE, chart, 1)[1]), {(0, 2, (0, 0, 1))})

    def test_no_way_from_the_place(self):
        chart = (3, ((0, 2, UP), (2, 2, UP), (0, 1, PLAIN)), ((2, 2), (0, 1)))
        self.assertTrue(same(without_place(THREE, chart, 2), (3, ((0, 1, PLAIN),), ((0, 1),))))

    def test_no_way_to_the_place(self):
        places, ways, begins = without_place(THREE, (2, ((0, 1, UP),), ()), 0)
        self.assertEqual((places, ways, set(begins)), (2, (), {(1, 1)}))

    def test_one_place(self):
        self.assertTrue(same(without_place(THREE, (1, (), ()), 0), (1, (), ())))
        self.assertTrue(same(without_place(THREE, (1, ((0, 0, UP),), ((0, 2),)), 0), (1, (), ())))
        self.assertTrue(same(without_place(ONE, (2, ((0, 1, (0,)),), ()), 0), (2, (), ((1, 0),))))

    def test_the_least_worth_is_the_ladder_s(self):
        chart = (2, ((0, 1, (0, 1, 2, 3)),), ())
        self.assertEqual(set(without_place(DOWNWARD_CHAIN, chart, 0)[2]), {(1, 3)})
        self.assertEqual(set(without_place(ODD_DIAMOND, chart, 0)[2]), {(1, 2)})

    def test_no_place(self):
        for ladder, chart in itertools.chain(small_charts(turns=1), [(THREE, FORK)]):
            for place in (-1, chart[0], chart[0] + 1, -chart[0], 10 ** 30, -10 ** 30):
                with self.subTest(chart=chart, place=place):
                    before = copied(chart)
                    self.assertRaises(NoPlace, without_place, ladder, chart, place)
                    self.assertTrue(same(chart, before))


class LeastAnswerTest(unittest.TestCase):
    """0.2 (f)"""

    def check_no_more(self, ladder, chart, left_out, shortened):
        told, whole = least(ladder, shortened), least_risen(ladder, chart)
        self.assertTrue(are_leq(ladder, at_others(told, left_out), at_others(whole, left_out)))
        self.assertEqual({told[place] for place in left_out} - {lowest_told(ladder, chart)[0]}, set())

    def check_same(self, ladder, chart, left_out, shortened):
        told, whole = least(ladder, shortened), least_risen(ladder, chart)
        self.assertTrue(same(at_others(told, left_out), at_others(whole, left_out)), (ladder, chart, left_out))

    def check_all(self, charts, check):
        for ladder, chart in charts:
            for place in range(chart[0]):
                check(ladder, chart, [place], without_place(ladder, chart, place))
            check(ladder, chart, [], joined_ways(ladder, chart))
            for left_out in places_left_out(chart):
                check(ladder, chart, left_out, without_places(ladder, chart, left_out))

    def test_no_more_at_the_others(self):
        self.check_all(small_charts(), self.check_no_more)
        self.check_all(great_charts(turns=1), self.check_no_more)

    def test_the_same_where_all_rules_spread(self):
        self.check_all(spreading_charts(), self.check_same)
        self.check_all(great_spreading_charts(turns=1), self.check_same)

    def test_less_where_a_rule_only_rises(self):
        chart = (4, ((0, 2, (0, 1, 2, 3)), (1, 2, (0, 1, 2, 3)), (2, 3, (0, 0, 0, 3))), ((0, 1), (1, 2)))
        self.assertEqual(least(DIAMOND, chart), (1, 2, 3, 3))
        self.assertEqual(least(DIAMOND, without_place(DIAMOND, chart, 2)), (1, 2, 0, 0))


class JoinedWaysTest(unittest.TestCase):
    """8.2"""

    def test_joins(self):
        for ladder, chart in itertools.chain(small_charts(turns=3), great_charts(turns=1)):
            told = joined_ways(ladder, chart)
            self.assertTrue(same(told, joined_ways_told(ladder, chart)), (ladder, chart))
            self.assertEqual((list(told[1]), list(told[2])), (sorted(told[1]), sorted(told[2])))

    def test_done_again(self):
        for ladder, chart in itertools.chain(small_charts(turns=2), great_charts(turns=1)):
            told = joined_ways(ladder, chart)
            self.assertTrue(same(joined_ways(ladder, told), told))

    def test_the_same_least_answer(self):
        for ladder, chart in itertools.chain(small_charts(turns=2), great_charts(turns=1)):
            self.assertTrue(same(least(ladder, joined_ways(ladder, chart)), least_risen(ladder, chart)))

    def test_by_hand(self):
        ways = ((2, 0, PLAIN), (0, 1, DOWN), (2, 0, UP), (0, 0, PLAIN), (0, 1, (1, 1, 1)))
        chart = (3, ways, ((2, 1), (0, 0), (2, 0)))
        wanted = (3, ((0, 0, PLAIN), (0, 1, (1, 1, 1)), (2, 0, UP)), ((0, 0), (2, 1)))
        self.assertTrue(same(joined_ways(THREE, chart), wanted))
        chart = (1, ((0, 0, (0, 1, 0, 1)), (0, 0, (0, 0, 2, 2))), ((0, 1), (0, 2)))
        self.assertTrue(same(joined_ways(DIAMOND, chart), (1, ((0, 0, (0, 1, 2, 3)),), ((0, 3),))))

    def test_none(self):
        self.assertTrue(same(joined_ways(THREE, (2, (), ())), (2, (), ())))
        self.assertTrue(same(joined_ways(THREE, (2, (), ((1, 0),))), (2, (), ((1, 0),))))
        self.assertTrue(same(joined_ways(THREE, (2, ((1, 1, (0, 0, 0)),), ())), (2, ((1, 1, (0, 0, 0)),), ())))

    def test_one_way_each_way_between_two_places(self):
        chart = (2, ((1, 0, UP), (0, 1, DOWN), (1, 1, PLAIN), (0, 0, DOWN)), ())
        wanted = (2, ((0, 0, DOWN), (0, 1, DOWN), (1, 0, UP), (1, 1, PLAIN)), ())
        self.assertTrue(same(joined_ways(THREE, chart), wanted))


class WithoutPlacesTest(unittest.TestCase):
    """8.3"""

    def wanted(self, ladder, chart, left_out):
        shortened = joined_ways_told(ladder, chart)
        for place in left_out:
            shortened = joined_ways_told(ladder, without_told(ladder, shortened, place))
        return shortened

    def test_none_one_and_several(self):
        for ladder, chart in itertools.chain(small_charts(turns=2), great_charts(turns=1)):
            for left_out in places_left_out(chart):
                before = copied(left_out)
                told = without_places(ladder, chart, left_out)
                self.assertTrue(same(told, self.wanted(ladder, chart, left_out)), (ladder, chart, left_out))
                self.assertTrue(same(left_out, before))

    def test_by_hand(self):
        ring = (3, ((0, 1, UP), (1, 2, PLAIN), (2, 0, DOWN), (0, 1, PLAIN)), ((0, 0), (0, 1)))
        self.assertTrue(same(without_places(THREE, ring, []), joined_ways(THREE, ring)))
        wanted = (3, ((0, 0, (0, 1, 1)),), ((0, 1),))
        self.assertTrue(same(without_places(THREE, ring, [1, 2]), wanted))
        self.assertTrue(same(without_places(THREE, ring, [2, 1]), wanted))
        self.assertTrue(same(without_places(THREE, ring, [0, 1, 2]), (3, (), ())))

    def test_one_behind_the_other_as_they_stand(self):
        both = (0, 0, 0, 3)
        ways = ((0, 1, (0, 1, 2, 3)), (0, 2, (0, 1, 1, 1)), (1, 2, (0, 2, 2, 2)), (2, 3, both))
        wanted = (4, ((0, 3, (0, 3, 3, 3)),), ((3, 0),))
        self.assertTrue(same(without_places(DIAMOND, (4, ways, ()), [1, 2]), wanted))
        wanted = (4, ((0, 3, (0, 0, 0, 0)),), ((3, 0),))
        self.assertTrue(same(without_places(DIAMOND, (4, ways, ()), [2, 1]), wanted))

    def test_no_place(self):
        for left_out in ([4], [-1], [0, 4], [-4], [1, -1, 2], [10 ** 30]):
            with self.subTest(left_out=left_out):
                before = copied((FORK, left_out))
                self.assertRaises(NoPlace, without_places, THREE, FORK, left_out)
                self.assertTrue(same((FORK, left_out), before))


class MoreThan60Test(unittest.TestCase):
    """8.1: what takes charts takes those with more than 60 ways or begins, too."""

    def setUp(self):
        self.ladder = chain(16)
        self.chart = without_place(self.ladder, STAR, 7)

    def test_many_ways_and_begins(self):
        self.assertIs(is_chart(self.ladder, STAR), True)
        self.assertGreater(len(set(self.chart[1])), 60)
        self.assertGreater(len(set(self.chart[2])), 60)
        self.assertIs(is_chart(self.ladder, self.chart), False)

    def test_least_answers(self):
        answer = least(self.ladder, self.chart)
        self.assertEqual(answer, (15,) * 7 + (0,))
        self.assertEqual(lowest(self.ladder, self.chart), (0,) * 8)
        self.assertEqual(least_by(self.ladder, self.chart, steps_of(self.chart))[0], answer)
        paper = paper_for(self.ladder, self.chart)
        self.assertEqual(gone(self.ladder, self.chart, paper), answer)
        self.assertIs(is_paper(self.ladder, self.chart, answer, paper), True)
        self.assertIs(is_answer(self.ladder, self.chart, answer), True)
        self.assertIsNone(missing(self.ladder, self.chart, answer))
        self.assertIs(is_least_at(self.ladder, self.chart, 0, 14), False)

    def test_the_last_ways_and_begins_count(self):
        last_way, last_begin = len(self.chart[1]) - 1, len(self.chart[2]) - 1
        start, goal, rule = self.chart[1][last_way]
        place, worth = self.chart[2][last_begin]
        self.assertEqual(gone(self.ladder, self.chart, [("begin", last_begin)])[place], worth)
        self.assertEqual(gone(self.ladder, self.chart, [("way", last_way)])[goal], rule[0])
        self.assertEqual(brought(self.ladder, self.chart, ("place", start), [last_way]), (goal, rule[0]))

    def test_paths(self):
        self.assertEqual(goals_of(self.chart, 0), list(range(7)))
        self.assertEqual(places_reached(self.chart, 7), [7])
        self.assertEqual(by_paths(self.ladder, self.chart), (15,) * 7 + (0,))
        ends = states(self.ladder, self.chart)
        self.assertIn((6, 15), ends)
        self.assertEqual(brought(self.ladder, self.chart, *path_to(self.ladder, self.chart, 6, 15)), (6, 15))

    def test_from_above(self):
        told = greatest(self.ladder, self.chart)
        self.assertIs(is_under(self.ladder, self.chart, told), True)
        self.assertEqual(told[7], 15)
        ways = tuple((0, 1, chain(16)[0]) for _ in range(61))
        self.assertEqual(demands(self.ladder, (2, ways, ()), 1, 4), (4, 4))

    def test_mapped(self):
        mapping = (0,) * 8 + (1,) * 8
        told = mapped_chart(self.ladder, chain(2), mapping, self.chart)
        self.assertEqual([len(part) for part in told[1:]], [len(part) for part in self.chart[1:]])
        self.assertEqual(least(chain(2), told), (1,) * 7 + (0,))

    def test_shortened_further(self):
        self.assertEqual(len(joined_ways(self.ladder, self.chart)[1]), 49)
        told = without_place(self.ladder, self.chart, 0)
        self.assertEqual((told[0], set(told[1]), set(told[2])), without_told(self.ladder, self.chart, 0))
        self.assertEqual(without_places(self.ladder, self.chart, list(range(8))), (8, (), ()))
