import itertools
import unittest

from ladderhall.errors import NoRule
from ladderhall.rules import (
    after, again_and_again, fixed, is_no_more, is_rule, joined_rules, least_rising, plain_rule, rises, spreads,
    steady,
)
from tests.samples import (
    BEYOND, DIAMOND, DOWNWARD_CHAIN, LADDERS, ODD_DIAMOND, ODD_PENTAGON, ONE, PENTAGON, THREE_ABREAST, all_orders,
    all_rules, any_things, chain, copied, is_rising, is_spreading, least_among, leq, odd_tables, rising_rules, same,
    spreading_rules, subsets,
)

SMALL = [ladder for many in (1, 2, 3, 4) for ladder in sorted(all_orders(many))]
SOME_SMALL = [ONE, chain(2), chain(3), chain(4), DOWNWARD_CHAIN, DIAMOND, ODD_DIAMOND]


def least_fixed(ladder, rule):
    return least_among(ladder, [x for x in range(len(ladder)) if rule[x] == x])


def least_kept(ladder, rule, worth):
    kept = [x for x in range(len(ladder)) if leq(ladder, worth, x) and leq(ladder, rule[x], x)]
    return least_among(ladder, kept)


class IsRuleTest(unittest.TestCase):
    """2.1"""

    def test_rules(self):
        for ladder in SOME_SMALL:
            for rule in all_rules(ladder):
                self.assertIs(is_rule(ladder, rule), True)
        for ladder in LADDERS + BEYOND:
            for rule in odd_tables(ladder):
                self.assertIs(is_rule(ladder, rule), True)

    def test_what_does_not_rise_is_a_rule_too(self):
        self.assertIs(is_rule(chain(2), (1, 0)), True)

    def test_numbers_out_of_range(self):
        self.assertIs(is_rule(chain(3), (0, 1, 3)), False)
        self.assertIs(is_rule(chain(3), (-1, 1, 2)), False)
        self.assertIs(is_rule(chain(3), (0, 10 ** 30, 2)), False)
        self.assertIs(is_rule(ONE, (1,)), False)

    def test_too_short_or_too_long(self):
        self.assertIs(is_rule(chain(3), (0, 1)), False)
        self.assertIs(is_rule(chain(3), (0, 1, 2, 2)), False)
        self.assertIs(is_rule(chain(3), ()), False)
        self.assertIs(is_rule(ONE, ()), False)
        self.assertIs(is_rule(ONE, (0, 0)), False)

    def test_truths_lists_and_others(self):
        wrong = [(0, True), (False, 1), [0, 1], ([0], [1]), ("0", "1"), (0, None), (0, (1,)), "01", None, 1, True, {}]
        for thing in wrong:
            with self.subTest(thing=thing):
                self.assertIs(is_rule(chain(2), thing), False)

    def test_any_things(self):
        for ladder in (ONE, chain(3), PENTAGON):
            for thing in any_things():
                with self.subTest(thing=thing):
                    before = copied(thing)
                    self.assertIs(is_rule(ladder, thing), False)
                    self.assertTrue(same(thing, before))


class RisingTest(unittest.TestCase):
    """2.1"""

    def test_rises_and_spreads(self):
        for ladder in SMALL:
            for rule in all_rules(ladder):
                self.assertIs(rises(ladder, rule), is_rising(ladder, rule))
                self.assertIs(spreads(ladder, rule), is_spreading(ladder, rule))

    def test_rises_and_spreads_on_greater_ladders(self):
        for ladder in LADDERS + BEYOND:
            for rule in odd_tables(ladder):
                self.assertIs(rises(ladder, rule), is_rising(ladder, rule))
                self.assertIs(spreads(ladder, rule), is_spreading(ladder, rule))

    def test_by_hand(self):
        self.assertIs(rises(chain(3), (0, 0, 2)), True)
        self.assertIs(rises(chain(3), (1, 0, 2)), False)
        self.assertIs(rises(chain(3), (2, 1, 1)), False)
        self.assertIs(rises(DOWNWARD_CHAIN, (0, 0, 1, 3)), True)
        self.assertIs(rises(DIAMOND, (0, 0, 0, 3)), True)
        self.assertIs(spreads(DIAMOND, (0, 0, 0, 3)), False)
        self.assertIs(spreads(DIAMOND, (0, 2, 1, 3)), True)
        self.assertIs(spreads(DIAMOND, (1, 1, 3, 3)), True)
        self.assertIs(spreads(chain(3), (1, 0, 2)), False)

    def test_is_no_more(self):
        for ladder in (ONE, chain(3), DOWNWARD_CHAIN, DIAMOND):
            some = list(all_rules(ladder))[::5]
            for one, other in itertools.product(some, repeat=2):
                wanted = all(leq(ladder, one[x], other[x]) for x in range(len(ladder)))
                self.assertIs(is_no_more(ladder, one, other), wanted)

    def test_is_no_more_by_hand(self):
        self.assertIs(is_no_more(chain(3), (0, 1, 2), (0, 1, 2)), True)
        self.assertIs(is_no_more(chain(3), (0, 1, 1), (2, 1, 2)), True)
        self.assertIs(is_no_more(chain(3), (0, 1, 2), (2, 2, 1)), False)
        self.assertIs(is_no_more(DIAMOND, (1, 1, 1, 1), (2, 2, 2, 2)), False)
        self.assertIs(is_no_more(DOWNWARD_CHAIN, (3, 3, 3, 3), (0, 1, 2, 3)), True)


class MadeRulesTest(unittest.TestCase):
    """2.2 and 0.2 (b)"""

    def test_plain_rule(self):
        for ladder in LADDERS + BEYOND:
            self.assertTrue(same(plain_rule(ladder), tuple(range(len(ladder)))))
            self.assertTrue(spreads(ladder, plain_rule(ladder)))
            self.assertTrue(rises(ladder, plain_rule(ladder)))

    def test_steady(self):
        for ladder in LADDERS + BEYOND:
            for worth in range(len(ladder)):
                rule = steady(ladder, worth)
                self.assertTrue(same(rule, tuple(worth for x in ladder)))
                self.assertTrue(spreads(ladder, rule))
                self.assertTrue(rises(ladder, rule))

    def test_after(self):
        for ladder in (ONE, chain(3), DIAMOND):
            some = list(all_rules(ladder))[::7]
            for first, then in itertools.product(some, repeat=2):
                wanted = tuple(then[first[x]] for x in range(len(ladder)))
                self.assertTrue(same(after(first, then), wanted))

    def test_after_goes_first_by_the_first(self):
        self.assertEqual(after((1, 1, 1), (0, 2, 2)), (2, 2, 2))
        self.assertEqual(after((0, 2, 2), (1, 1, 1)), (1, 1, 1))
        self.assertEqual(after((1, 2, 0), (1, 1, 0)), (1, 0, 1))

    def test_joined_rules(self):
        for ladder in (ONE, DOWNWARD_CHAIN, DIAMOND):
            some = list(all_rules(ladder))[::7]
            for one, other in itertools.product(some, repeat=2):
                wanted = tuple(ladder[x][y] for x, y in zip(one, other))
                self.assertTrue(same(joined_rules(ladder, one, other), wanted))

    def test_joined_rules_by_hand(self):
        self.assertEqual(joined_rules(DIAMOND, (0, 1, 2, 1), (0, 0, 1, 2)), (0, 1, 3, 3))
        self.assertEqual(joined_rules(PENTAGON, (0, 1, 2, 3, 4), (1, 1, 1, 1, 1)), (1, 1, 2, 4, 4))

    def test_what_is_made_of_rising_rules_rises(self):
        for ladder in (chain(4), DIAMOND, ODD_DIAMOND):
            for one, other in itertools.product(rising_rules(ladder), repeat=2):
                self.assertTrue(rises(ladder, after(one, other)))
                self.assertTrue(rises(ladder, joined_rules(ladder, one, other)))

    def test_what_is_made_of_spreading_rules_spreads(self):
        for ladder in (chain(4), DIAMOND, ODD_DIAMOND):
            for one, other in itertools.product(spreading_rules(ladder), repeat=2):
                self.assertTrue(spreads(ladder, after(one, other)))
                self.assertTrue(spreads(ladder, joined_rules(ladder, one, other)))


class LeastRisingTest(unittest.TestCase):
    """2.3"""

    def check(self, ladder, table, rising):
        higher = [rule for rule in rising if all(leq(ladder, x, y) for x, y in zip(table, rule))]
        told = least_rising(ladder, table)
        self.assertIn(told, higher)
        for rule in higher:
            self.assertTrue(all(leq(ladder, x, y) for x, y in zip(told, rule)))

    def test_all_tables_of_small_ladders(self):
        for ladder in SOME_SMALL:
            rising = rising_rules(ladder)
            for table in all_rules(ladder):
                self.check(ladder, table, rising)

    def test_some_tables_of_five_worths(self):
        for ladder in (PENTAGON, THREE_ABREAST, ODD_PENTAGON):
            rising = rising_rules(ladder)
            for table in odd_tables(ladder):
                self.check(ladder, table, rising)

    def test_greater_ladders(self):
        for ladder in LADDERS + BEYOND:
            for table in odd_tables(ladder):
                told = least_rising(ladder, table)
                self.assertTrue(is_rising(ladder, told))
                self.assertTrue(all(leq(ladder, x, y) for x, y in zip(table, told)))
                self.assertTrue(same(least_rising(ladder, told), told))

    def test_by_hand(self):
        self.assertTrue(same(least_rising(chain(4), (2, 0, 3, 1)), (2, 2, 3, 3)))
        self.assertTrue(same(least_rising(DIAMOND, (0, 2, 1, 0)), (0, 2, 1, 3)))
        self.assertTrue(same(least_rising(DOWNWARD_CHAIN, (3, 3, 3, 1)), (1, 1, 1, 1)))
        self.assertTrue(same(least_rising(ONE, (0,)), (0,)))


class FixedTest(unittest.TestCase):
    """2.4 and 0.2 (b)"""

    def test_all_rules_of_small_ladders(self):
        for ladder in SMALL:
            for rule in all_rules(ladder):
                if is_rising(ladder, rule):
                    self.assertEqual(fixed(ladder, rule), least_fixed(ladder, rule))
                    wanted = tuple(least_kept(ladder, rule, x) for x in range(len(ladder)))
                    self.assertTrue(same(again_and_again(ladder, rule), wanted))
                else:
                    self.assertRaises(NoRule, fixed, ladder, rule)
                    self.assertRaises(NoRule, again_and_again, ladder, rule)

    def test_greater_ladders(self):
        for ladder in LADDERS + BEYOND:
            for table in odd_tables(ladder):
                rule = least_rising(ladder, table)
                self.assertEqual(fixed(ladder, rule), least_fixed(ladder, rule))
                wanted = tuple(least_kept(ladder, rule, x) for x in range(len(ladder)))
                self.assertTrue(same(again_and_again(ladder, rule), wanted))

    def test_by_hand(self):
        self.assertEqual(fixed(chain(5), (1, 3, 3, 3, 4)), 3)
        self.assertEqual(fixed(chain(5), (0, 0, 1, 2, 3)), 0)
        self.assertEqual(fixed(DOWNWARD_CHAIN, (0, 0, 1, 2)), 0)
        self.assertEqual(fixed(chain(16), tuple(min(x + 1, 15) for x in range(16))), 15)
        self.assertEqual(fixed(ONE, (0,)), 0)
        self.assertEqual(again_and_again(chain(5), (1, 3, 3, 3, 4)), (3, 3, 3, 3, 4))
        self.assertEqual(again_and_again(chain(5), (0, 0, 0, 0, 0)), (0, 1, 2, 3, 4))
        self.assertEqual(again_and_again(DIAMOND, (0, 2, 1, 3)), (0, 3, 3, 3))
        self.assertEqual(again_and_again(subsets(2), (1, 1, 1, 1)), (1, 1, 3, 3))

    def test_again_and_again_rises_and_spreads_as_its_rule(self):
        for ladder in SOME_SMALL:
            for rule in rising_rules(ladder):
                self.assertTrue(rises(ladder, again_and_again(ladder, rule)))
                if is_spreading(ladder, rule):
                    self.assertTrue(spreads(ladder, again_and_again(ladder, rule)))

    def test_no_rule(self):
        wrong = [
            (0, 1), (0, 1, 2, 2), (0, 1, 3), (-1, 1, 2), (0, True, 2), (False, 1, 2), [0, 1, 2], ("0", "1", "2"),
            (0, None, 2), ((0,), (1,), (2,)), ([0, 1, 2],), (), None, "012", 0, True, (1, 0, 2), (2, 1, 0), (0, 2, 1),
        ]
        for thing in wrong + any_things():
            with self.subTest(thing=thing):
                before = copied(thing)
                self.assertRaises(NoRule, fixed, chain(3), thing)
                self.assertRaises(NoRule, again_and_again, chain(3), thing)
                self.assertTrue(same(thing, before))

    def test_any_things_are_no_rule_of_one_worth(self):
        for thing in any_things() + [(1,), (-1,), (0, 0), (), [0], (False,)]:
            with self.subTest(thing=thing):
                self.assertRaises(NoRule, fixed, ONE, thing)
                self.assertRaises(NoRule, again_and_again, ONE, thing)
