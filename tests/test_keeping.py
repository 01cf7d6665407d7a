import unittest

from ladderhall.errors import NoPlace, NoRule
from ladderhall.keeping import Keeper
from tests.samples import (
    BEYOND, DIAMOND, LADDERS, ODD_DIAMOND, ONE, any_things, chain, copied, great_charts, least_found, least_risen,
    lowest_told, same, small_charts,
)

THREE = chain(3)
FIVE = chain(5)
UP = (1, 2, 2)
PLAIN = (0, 1, 2)
FIVE_UP = (1, 2, 3, 4, 4)


def state_of(keeper):
    return copied((keeper.chart(), keeper.answer(), keeper.raises()))


def kept_ring():
    """A keeper of three places, with a ring of ways and the worth 1 at place 0."""
    keeper = Keeper(THREE, 3)
    keeper.add_way(0, 1, PLAIN)
    keeper.add_way(1, 2, UP)
    keeper.add_begin(0, 1)
    return keeper


def comings_of(chart):
    """Orders in which the begins and ways of a chart may come."""
    begins = [("begin", begin) for begin in chart[2]]
    ways = [("way", way) for way in chart[1]]
    mixed = [coming for two in zip(ways, begins) for coming in two]
    return [begins + ways, ways + begins, (ways + begins)[::-1], mixed + ways + begins]


class KeeperTest(unittest.TestCase):
    """7.1 and 0.2 (f)"""

    def test_at_the_beginning(self):
        for ladder in LADDERS + BEYOND:
            for places in range(1, 10):
                keeper = Keeper(ladder, places)
                chart = (places, (), ())
                self.assertTrue(same(keeper.chart(), chart))
                self.assertTrue(same(keeper.answer(), lowest_told(ladder, chart)))
                self.assertTrue(same(keeper.raises(), 0))

    def check_comings(self, ladder, places, comings, least_told):
        keeper = Keeper(ladder, places)
        ways, begins, answer, raises = (), (), keeper.answer(), 0
        for kind, coming in comings:
            if kind == "begin":
                begins += (coming,)
                self.assertIsNone(keeper.add_begin(*coming))
            else:
                ways += (coming,)
                self.assertIsNone(keeper.add_way(*coming))
            chart = (places, ways, begins)
            wanted = least_told(ladder, chart)
            self.assertTrue(same(keeper.chart(), chart))
            self.assertTrue(same(keeper.answer(), wanted), (ladder, chart))
            self.assert_raised(keeper.raises() - raises, answer, wanted)
            answer, raises = wanted, keeper.raises()
        self.assertIs(raises.__class__, int)

    def assert_raised(self, many, before, behind):
        """At least once for each place that rose, and never where none did."""
        changed = sum(one != other for one, other in zip(before, behind))
        self.assertGreaterEqual(many, changed)
        self.assertEqual(many > 0, changed > 0)

    def test_behind_each_coming(self):
        for ladder, chart in small_charts(turns=2):
            for comings in comings_of(chart):
                self.check_comings(ladder, chart[0], comings, least_found)

    def test_greater_charts(self):
        for ladder, chart in great_charts(turns=1):
            for comings in comings_of(chart)[1:3]:
                self.check_comings(ladder, chart[0], comings, least_risen)

    def test_by_hand(self):
        keeper = kept_ring()
        self.assertTrue(same(keeper.answer(), (1, 1, 2)))
        keeper.add_way(2, 0, PLAIN)
        self.assertTrue(same(keeper.answer(), (2, 2, 2)))
        self.assertTrue(same(keeper.chart(), (3, ((0, 1, PLAIN), (1, 2, UP), (2, 0, PLAIN)), ((0, 1),))))

    def test_the_last_one_is_the_last_in_the_chart(self):
        keeper = Keeper(THREE, 2)
        for worth in (2, 0, 2, 1):
            keeper.add_begin(1, worth)
        for rule in (UP, PLAIN, UP):
            keeper.add_way(1, 0, rule)
        wanted = (2, ((1, 0, UP), (1, 0, PLAIN), (1, 0, UP)), ((1, 2), (1, 0), (1, 2), (1, 1)))
        self.assertTrue(same(keeper.chart(), wanted))

    def test_raises_no_more_than_the_ladder_has_steps(self):
        keeper = Keeper(FIVE, 1)
        keeper.add_way(0, 0, FIVE_UP)
        self.assertTrue(same(keeper.answer(), (4,)))
        self.assertTrue(1 <= keeper.raises() <= 4)
        keeper = Keeper(FIVE, 2)
        for worth in (1, 2, 3):
            keeper.add_begin(0, worth)
            self.assertEqual(keeper.raises(), worth)

    def test_raises_stays_where_nothing_rose(self):
        keeper = kept_ring()
        raises = keeper.raises()
        keeper.add_begin(2, 2)
        keeper.add_begin(0, 1)
        keeper.add_begin(1, 0)
        keeper.add_way(0, 2, PLAIN)
        keeper.add_way(1, 1, PLAIN)
        self.assertEqual(keeper.raises(), raises)
        self.assertEqual(keeper.answer(), (1, 1, 2))
        keeper.add_begin(1, 2)
        self.assertEqual(keeper.raises(), raises + 1)

    def test_a_worth_beside_the_one_there_raises_too(self):
        keeper = Keeper(DIAMOND, 2)
        keeper.add_begin(0, 1)
        keeper.add_way(0, 1, (0, 0, 0, 3))
        self.assertEqual((keeper.answer(), keeper.raises()), ((1, 0), 1))
        keeper.add_begin(0, 2)
        self.assertEqual((keeper.answer(), keeper.raises()), ((3, 3), 3))

    def test_two_keepers(self):
        one, other = Keeper(THREE, 2), Keeper(THREE, 2)
        one.add_begin(0, 1)
        one.add_way(0, 1, UP)
        self.assertTrue(same(state_of(other), ((2, (), ()), (0, 0), 0)))
        before = state_of(one)
        other.add_way(1, 0, UP)
        other.add_begin(1, 2)
        self.assertTrue(same(state_of(one), before))
        self.assertTrue(same(state_of(other)[:2], ((2, ((1, 0, UP),), ((1, 2),)), (2, 2))))

    def test_what_was_told_stays_as_it_was(self):
        keeper = kept_ring()
        chart, answer = keeper.chart(), keeper.answer()
        kept = copied((chart, answer))
        keeper.add_way(2, 0, UP)
        keeper.add_begin(1, 2)
        self.assertTrue(same((chart, answer), kept))

    def test_asking_changes_nothing(self):
        keeper = kept_ring()
        self.assertTrue(same(state_of(keeper), state_of(keeper)))

    def test_more_than_60(self):
        keeper = Keeper(THREE, 9)
        for number in range(65):
            keeper.add_begin(8, 0)
            keeper.add_way(8, number % 9, PLAIN)
        keeper.add_begin(8, 1)
        self.assertEqual((len(keeper.chart()[1]), len(keeper.chart()[2])), (65, 66))
        self.assertEqual(keeper.answer(), (1,) * 9)


class RefusalTest(unittest.TestCase):
    """7.1 and 0.3"""

    def assert_refused(self, keeper, refusal, call, *arguments):
        before = state_of(keeper)
        self.assertRaises(refusal, call, *arguments)
        self.assertTrue(same(state_of(keeper), before))

    def test_no_place(self):
        for keeper in (Keeper(THREE, 1), Keeper(ODD_DIAMOND, 2), kept_ring()):
            places = keeper.chart()[0]
            plain = tuple(range(4)) if places == 2 else PLAIN
            for place in (-1, places, places + 1, -places, 10 ** 30, -10 ** 30):
                with self.subTest(places=places, place=place):
                    self.assert_refused(keeper, NoPlace, keeper.add_begin, place, 1)
                    self.assert_refused(keeper, NoPlace, keeper.add_way, place, 0, plain)
                    self.assert_refused(keeper, NoPlace, keeper.add_way, 0, place, plain)
                    self.assert_refused(keeper, NoPlace, keeper.add_way, place, place, plain)

    def test_no_place_ahead_of_no_rule(self):
        keeper = kept_ring()
        for rule in (None, (), (2, 1, 0), [0, 1, 2], "012"):
            for start, goal in ((-1, 0), (0, -1), (3, 0), (0, 3), (3, -1)):
                with self.subTest(rule=rule, start=start, goal=goal):
                    self.assert_refused(keeper, NoPlace, keeper.add_way, start, goal, rule)

    def test_no_rule(self):
        wrong = [
            (0, 1), (0, 1, 2, 2), (0, 1, 3), (-1, 1, 2), (0, True, 2), (False, 1, 2), [0, 1, 2], ("0", "1", "2"),
            (0, None, 2), ((0,), (1,), (2,)), ([0, 1, 2],), (), None, "012", 0, True, (1, 0, 2), (2, 1, 0), (0, 2, 1),
        ]
        keeper = kept_ring()
        for rule in wrong + any_things():
            with self.subTest(rule=rule):
                before = copied(rule)
                self.assert_refused(keeper, NoRule, keeper.add_way, 0, 1, rule)
                self.assert_refused(keeper, NoRule, keeper.add_way, 2, 2, rule)
                self.assertTrue(same(rule, before))

    def test_any_things_are_no_rule_of_one_worth(self):
        keeper = Keeper(ONE, 1)
        for rule in any_things() + [(1,), (-1,), (0, 0), (), [0], (False,)]:
            with self.subTest(rule=rule):
                self.assert_refused(keeper, NoRule, keeper.add_way, 0, 0, rule)

    def test_rising_is_by_the_keeper_s_ladder(self):
        keeper = Keeper(DIAMOND, 1)
        self.assertIsNone(keeper.add_way(0, 0, (0, 2, 1, 3)))
        self.assert_refused(keeper, NoRule, keeper.add_way, 0, 0, (0, 0, 1, 2))
        keeper = Keeper(chain(4), 1)
        self.assertIsNone(keeper.add_way(0, 0, (0, 0, 1, 2)))
        self.assert_refused(keeper, NoRule, keeper.add_way, 0, 0, (0, 2, 1, 3))

    def test_goes_on_behind_a_refusal(self):
        keeper = kept_ring()
        self.assertRaises(NoRule, keeper.add_way, 2, 0, (2, 1, 0))
        self.assertRaises(NoPlace, keeper.add_begin, 3, 2)
        keeper.add_way(2, 0, PLAIN)
        self.assertEqual(keeper.answer(), (2, 2, 2))
        self.assertEqual(keeper.chart()[1:], (((0, 1, PLAIN), (1, 2, UP), (2, 0, PLAIN)), ((0, 1),)))
