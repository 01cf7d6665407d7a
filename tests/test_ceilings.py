import itertools
import unittest

from ladderhall.ceilings import back_rule, demands, greatest, is_under
from ladderhall.errors import NoPlace, NoRule
from ladderhall.ladders import turned
from ladderhall.solving import least
from tests.samples import (
    BEYOND, DIAMOND, DOWNWARD_CHAIN, FEW_WORTHS, GREAT_SHAPES, LADDERS, MANY_WORTHS, ODD_DIAMOND, ODD_PENTAGON, ONE,
    PENTAGON, SHAPES, all_rules, all_worths, any_things, are_leq, chain, charts_over, copied, great_charts, least_risen,
    leq, odd_tables, rules_of, same, small_charts,
)

THREE = chain(3)
UP = (1, 2, 2)
DOWN = (0, 0, 1)
PLAIN = (0, 1, 2)


def is_under_told(ladder, chart, worths):
    places, ways, begins = chart
    fits = [leq(ladder, worths[place], worth) for place, worth in begins]
    fits += [leq(ladder, worths[goal], rule[worths[start]]) for start, goal, rule in ways]
    return all(fits)


def greatest_found(ladder, chart):
    """The greatest worths of places that are under, by a search over all."""
    under = [worths for worths in all_worths(ladder, chart) if is_under_told(ladder, chart, worths)]
    return next(one for one in under if all(are_leq(ladder, other, one) for other in under))


def greatest_sunk(ladder, chart):
    """The same by going down from the greatest worth while anything is beyond."""
    many = range(len(ladder))
    top = next(x for x in many if all(leq(ladder, y, x) for y in many))
    worths = [top] * chart[0]
    while not is_under_told(ladder, chart, worths):
        bounds = list(chart[2]) + [(goal, rule[worths[start]]) for start, goal, rule in chart[1]]
        for place, worth in bounds:
            both = [x for x in many if leq(ladder, x, worth) and leq(ladder, x, worths[place])]
            worths[place] = next(x for x in both if all(leq(ladder, y, x) for y in both))
    return tuple(worths)


def back_told(ladder, rule):
    told = []
    for worth in range(len(ladder)):
        led = [x for x in range(len(ladder)) if leq(ladder, rule[x], worth)]
        told.append(next((x for x in led if all(leq(ladder, y, x) for y in led)), None))
    return tuple(told)


def begun_at_all(chart, worths):
    return (chart[0], chart[1], tuple(enumerate(worths)))


def demands_found(ladder, chart, place, worth):
    """The greatest worths that may begin, by a search over all."""
    may = [
        worths for worths in all_worths(ladder, chart)
        if leq(ladder, least_risen(ladder, begun_at_all(chart, worths))[place], worth)
    ]
    return next(one for one in may if all(are_leq(ladder, other, one) for other in may))


def backed_rules(ladder):
    return [rule for rule in rules_of(ladder) if None not in back_told(ladder, rule)]


class IsUnderTest(unittest.TestCase):
    """6.1"""

    def test_all_worths_of_small_charts(self):
        for ladder, chart in small_charts(turns=3):
            for worths in all_worths(ladder, chart):
                self.assertIs(is_under(ladder, chart, worths), is_under_told(ladder, chart, worths))

    def test_by_hand(self):
        chart = (2, ((0, 1, UP),), ((0, 1),))
        self.assertIs(is_under(THREE, chart, (0, 0)), True)
        self.assertIs(is_under(THREE, chart, (0, 1)), True)
        self.assertIs(is_under(THREE, chart, (0, 2)), False)
        self.assertIs(is_under(THREE, chart, (1, 2)), True)
        self.assertIs(is_under(THREE, chart, (2, 2)), False)
        self.assertEqual([is_under(DIAMOND, (1, (), ((0, 1),)), (x,)) for x in range(4)], [True, True, False, False])

    def test_what_is_no_worths_of_places(self):
        wrong = [
            (), (0,), (0, 0, 0), (0, 3), (3, 0), (-1, 0), (0, -1), (False, 0), (0, False), (True, True), [0, 0],
            ([0], [0]), ((0,), (0,)), ((0, 0),), (0, None), (None, 0), ("0", "0"), "00", None, 0, True, False,
        ]
        for chart in ((2, (), ()), (2, ((0, 1, UP),), ((0, 1),))):
            for thing in wrong + any_things():
                with self.subTest(chart=chart, thing=thing):
                    before = copied(thing)
                    self.assertIs(is_under(THREE, chart, thing), False)
                    self.assertTrue(same(thing, before))

    def test_what_is_no_worths_of_one_place(self):
        for thing in any_things() + [(), (1,), (-1,), (False,), [0], (0, 0)]:
            with self.subTest(thing=thing):
                self.assertIs(is_under(ONE, (1, (), ()), thing), False)
        self.assertIs(is_under(ONE, (1, (), ()), (0,)), True)


class GreatestTest(unittest.TestCase):
    """6.1 and 0.2 (e)"""

    def test_greatest_of_all_that_are_under(self):
        for ladder, chart in small_charts(turns=12):
            self.assertTrue(same(greatest(ladder, chart), greatest_found(ladder, chart)), (ladder, chart))

    def test_greater_charts(self):
        for ladder, chart in great_charts():
            self.assertTrue(same(greatest(ladder, chart), greatest_sunk(ladder, chart)))

    def test_least_ones_upside_down(self):
        for ladder, chart in itertools.chain(small_charts(), great_charts(turns=1)):
            self.assertTrue(same(greatest(ladder, chart), least(turned(ladder), chart)))
            self.assertTrue(same(greatest(turned(ladder), chart), least(ladder, chart)))

    def test_by_hand(self):
        self.assertTrue(same(greatest(THREE, (2, (), ())), (2, 2)))
        self.assertTrue(same(greatest(THREE, (2, (), ((1, 1), (1, 0), (1, 2)))), (2, 0)))
        self.assertTrue(same(greatest(THREE, (2, ((0, 1, UP),), ((0, 0),))), (0, 1)))
        self.assertTrue(same(greatest(THREE, (1, ((0, 0, DOWN),), ())), (0,)))
        self.assertTrue(same(greatest(THREE, (3, ((0, 1, DOWN), (1, 2, DOWN)), ())), (2, 1, 0)))
        self.assertTrue(same(greatest(DIAMOND, (1, (), ((0, 1), (0, 2)))), (0,)))
        self.assertTrue(same(greatest(DOWNWARD_CHAIN, (2, (), ((1, 2),))), (0, 2)))


class BackRuleTest(unittest.TestCase):
    """6.2"""

    def test_all_tables_of_small_ladders(self):
        for ladder in (ONE, chain(2), THREE, DOWNWARD_CHAIN, DIAMOND, ODD_DIAMOND, PENTAGON):
            for table in all_rules(ladder):
                self.assertTrue(same(back_rule(ladder, table), back_told(ladder, table)), (ladder, table))

    def test_greater_ladders(self):
        for ladder in LADDERS + BEYOND:
            for table in odd_tables(ladder):
                self.assertTrue(same(back_rule(ladder, table), back_told(ladder, table)))

    def test_by_hand(self):
        self.assertTrue(same(back_rule(THREE, PLAIN), PLAIN))
        self.assertTrue(same(back_rule(THREE, DOWN), (1, 2, 2)))
        self.assertTrue(same(back_rule(THREE, UP), (None, 0, 2)))
        self.assertTrue(same(back_rule(THREE, (2, 2, 2)), (None, None, 2)))
        self.assertTrue(same(back_rule(THREE, (2, 0, 1)), (1, 2, 2)))
        self.assertTrue(same(back_rule(DIAMOND, (0, 2, 1, 3)), (0, 2, 1, 3)))
        self.assertTrue(same(back_rule(DIAMOND, (0, 0, 0, 3)), (None, None, None, 3)))
        self.assertTrue(same(back_rule(DIAMOND, (3, 0, 0, 3)), (None, None, None, 3)))
        self.assertTrue(same(back_rule(DOWNWARD_CHAIN, (0, 0, 1, 3)), (0, 2, 3, 3)))
        self.assertTrue(same(back_rule(ONE, (0,)), (0,)))

    def test_one_that_is_led_so_and_is_not_the_greatest(self):
        self.assertTrue(same(back_rule(PENTAGON, (4, 0, 4, 0, 4)), (None, None, None, None, 4)))
        self.assertTrue(same(back_rule(PENTAGON, (4, 0, 0, 4, 4)), (2, 2, 2, 2, 4)))


class DemandsTest(unittest.TestCase):
    """6.3 and 0.2 (e)"""

    def test_greatest_of_all_that_may_begin(self):
        for ladder in [ladder for ladder in FEW_WORTHS if len(ladder) <= 4] + [ODD_PENTAGON]:
            for chart in charts_over(ladder, backed_rules(ladder), SHAPES, 1 if len(ladder) > 3 else 3):
                for place, worth in itertools.product(range(chart[0]), range(len(ladder))):
                    wanted = demands_found(ladder, chart, place, worth)
                    self.assertTrue(same(demands(ladder, chart, place, worth), wanted), (ladder, chart, place, worth))

    def test_as_much_may_begin_and_no_more_in_greater_charts(self):
        for ladder in MANY_WORTHS:
            for chart in charts_over(ladder, backed_rules(ladder), SHAPES[5:] + GREAT_SHAPES[:1], 2):
                place, worth = chart[0] - 1, len(ladder) // 2
                told = demands(ladder, chart, place, worth)
                self.assertTrue(leq(ladder, least(ladder, begun_at_all(chart, told))[place], worth))
                for more in self.raised_at_one_place(ladder, told):
                    self.assertFalse(leq(ladder, least(ladder, begun_at_all(chart, more))[place], worth))

    def raised_at_one_place(self, ladder, worths):
        for place, worth in itertools.product(range(len(worths)), range(len(ladder))):
            joined = ladder[worths[place]][worth]
            if joined != worths[place]:
                yield worths[:place] + (joined,) + worths[place + 1:]

    def test_by_hand(self):
        chart = (3, ((0, 1, DOWN), (1, 2, PLAIN)), ())
        self.assertTrue(same(demands(THREE, chart, 2, 0), (1, 0, 0)))
        self.assertTrue(same(demands(THREE, chart, 2, 1), (2, 1, 1)))
        self.assertTrue(same(demands(THREE, chart, 1, 0), (1, 0, 2)))
        self.assertTrue(same(demands(THREE, chart, 0, 0), (0, 2, 2)))
        self.assertTrue(same(demands(THREE, chart, 2, 2), (2, 2, 2)))
        self.assertTrue(same(demands(DIAMOND, (2, ((0, 1, (0, 2, 1, 3)),), ()), 1, 1), (2, 1)))
        self.assertTrue(same(demands(DOWNWARD_CHAIN, (2, (), ()), 0, 2), (2, 0)))

    def test_the_chart_s_begins_are_left_aside(self):
        ways = ((0, 1, DOWN), (1, 0, PLAIN))
        for begins in ((), ((0, 2), (1, 2)), ((0, 0), (1, 0)), ((1, 1),)):
            self.assertTrue(same(demands(THREE, (2, ways, begins), 0, 1), (1, 1)))
            self.assertTrue(same(demands(THREE, (2, ways, begins), 1, 1), (2, 1)))

    def test_no_place(self):
        for chart in ((1, (), ()), (2, ((0, 1, PLAIN),), ((0, 1),)), (3, (), ())):
            for place in (-1, chart[0], chart[0] + 1, -chart[0], 10 ** 30, -10 ** 30):
                with self.subTest(chart=chart, place=place):
                    self.assertRaises(NoPlace, demands, THREE, chart, place, 0)

    def test_no_rule(self):
        for rule in (UP, (2, 2, 2), (1, 1, 1)):
            with self.subTest(rule=rule):
                self.assertRaises(NoRule, demands, THREE, (2, ((0, 1, rule),), ()), 1, 2)
                self.assertRaises(NoRule, demands, THREE, (2, ((0, 1, PLAIN), (1, 1, rule)), ()), 1, 0)
        self.assertRaises(NoRule, demands, DIAMOND, (1, ((0, 0, (0, 0, 0, 3)),), ()), 0, 3)

    def test_no_rule_of_a_way_that_leads_elsewhere(self):
        self.assertRaises(NoRule, demands, THREE, (3, ((0, 1, UP),), ()), 2, 2)
        self.assertRaises(NoRule, demands, THREE, (3, ((1, 1, PLAIN), (2, 0, UP)), ()), 2, 2)

    def test_no_place_ahead_of_no_rule(self):
        for place in (-1, 2, 3):
            self.assertRaises(NoPlace, demands, THREE, (2, ((0, 1, UP),), ()), place, 2)

    def test_no_rule_just_where_a_back_rule_has_a_none(self):
        for ladder in (ONE, chain(2), THREE, DIAMOND, ODD_DIAMOND):
            for rule in rules_of(ladder):
                chart = (1, ((0, 0, rule),), ())
                if None in back_told(ladder, rule):
                    self.assertRaises(NoRule, demands, ladder, chart, 0, 0)
                else:
                    self.assertTrue(same(demands(ladder, chart, 0, 0), demands_found(ladder, chart, 0, 0)))
