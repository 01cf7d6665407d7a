import itertools
import unittest

from ladderhall.errors import TooGreat
from ladderhall.ladders import (
    below, chain_ladder, corners, flat_ladder, greatest_of, height_of, is_below, is_ladder, is_parting,
    joined_all, least_of, met, paired, turned,
)
from tests.samples import (
    BEYOND, DIAMOND, DOWNWARD_CHAIN, FOURTEEN_ABREAST, LADDERS, NOT_PARTING, ODD_DIAMOND, ODD_PENTAGON, ONE,
    PARTING, PENTAGON, THREE_ABREAST, all_orders, any_things, chain, copied, divisors, leq, same, subsets,
    table_of, tables_either_way,
)


def lengths_upward(ladder, worth):
    """The lengths of all ways up from a worth, step by step."""
    lengths = {0}
    for greater in range(len(ladder)):
        if greater != worth and leq(ladder, worth, greater):
            lengths |= {length + 1 for length in lengths_upward(ladder, greater)}
    return lengths


class IsLadderTest(unittest.TestCase):
    """1.1"""

    def test_ladders(self):
        for ladder in LADDERS:
            with self.subTest(ladder):
                self.assertIs(is_ladder(ladder), True)

    def test_many_worths(self):
        self.assertIs(is_ladder(()), False)
        self.assertIs(is_ladder(((0,),)), True)
        self.assertIs(is_ladder(chain(16)), True)
        self.assertIs(is_ladder(subsets(4)), True)
        self.assertIs(is_ladder(chain(17)), False)
        self.assertIs(is_ladder(chain(40)), False)

    def test_all_small_tables(self):
        for many in (1, 2, 3):
            wanted = all_orders(many)
            rows = list(itertools.product(range(many), repeat=many))
            for table in itertools.product(rows, repeat=many):
                self.assertIs(is_ladder(table), table in wanted, table)

    def test_all_tables_of_four_that_go_either_way(self):
        wanted = set(all_orders(4))
        found = {table for table in tables_either_way(4) if is_ladder(table)}
        self.assertEqual(len(found), 36)
        self.assertEqual(found, wanted)

    def test_a_join_with_itself_that_is_another(self):
        # These are the same either way and from either end, and 0 leaves all as they are.
        self.assertIs(is_ladder(((0, 1), (1, 0))), False)
        self.assertIs(is_ladder(table_of(3, lambda x, y: min(x + y, 2))), False)

    def test_joins_that_are_not_the_same_either_way(self):
        self.assertIs(is_ladder(((0, 1, 2), (1, 1, 1), (2, 2, 2))), False)
        self.assertIs(is_ladder(((0, 1, 2), (1, 1, 2), (2, 1, 2))), False)

    def test_joins_that_are_not_the_same_from_either_end(self):
        self.assertIs(is_ladder(((0, 1, 2, 3), (1, 1, 2, 1), (2, 2, 2, 3), (3, 1, 3, 3))), False)

    def test_no_least_worth(self):
        self.assertIs(is_ladder(((0, 2, 2), (2, 1, 2), (2, 2, 2))), False)
        self.assertIs(is_ladder(((0, 0, 0), (0, 1, 0), (0, 0, 2))), False)

    def test_one_join_changed(self):
        for ladder in (DIAMOND, PENTAGON, chain(5)):
            for x, y, join in itertools.product(range(len(ladder)), repeat=3):
                if join != ladder[x][y]:
                    rows = [list(row) for row in ladder]
                    rows[x][y] = join
                    self.assertIs(is_ladder(tuple(tuple(row) for row in rows)), False)

    def test_numbers_out_of_range(self):
        self.assertIs(is_ladder(((1,),)), False)
        self.assertIs(is_ladder(((-1,),)), False)
        self.assertIs(is_ladder(((0, 1), (1, 2))), False)
        self.assertIs(is_ladder(((0, 1), (1, -1))), False)
        self.assertIs(is_ladder(((0, -1), (-1, -1))), False)
        self.assertIs(is_ladder(((1, 2), (2, 2))), False)

    def test_truths_for_numbers(self):
        self.assertIs(is_ladder(((False,),)), False)
        self.assertIs(is_ladder(((0, True), (True, True))), False)
        self.assertIs(is_ladder(((0, 1), (1, True))), False)
        self.assertIs(is_ladder(((False, 1), (1, 1))), False)

    def test_lists_for_tuples(self):
        self.assertIs(is_ladder([[0]]), False)
        self.assertIs(is_ladder([(0,)]), False)
        self.assertIs(is_ladder(([0],)), False)
        self.assertIs(is_ladder(((0, 1), [1, 1])), False)
        self.assertIs(is_ladder([(0, 1), (1, 1)]), False)

    def test_rows_too_short_or_too_long(self):
        self.assertIs(is_ladder(((),)), False)
        self.assertIs(is_ladder(((0, 0),)), False)
        self.assertIs(is_ladder(((0, 1), (1,))), False)
        self.assertIs(is_ladder(((0, 1), (1, 1, 1))), False)
        self.assertIs(is_ladder(((0, 1),)), False)
        self.assertIs(is_ladder(((0, 1), (1, 1), (1, 1))), False)

    def test_texts_none_and_nested_rows(self):
        for row in (None, "", "01", "11", 1, True, ("1", "1"), (None, 1), (1, (1,)), (1, [1]), ((1, 1),)):
            with self.subTest(row=row):
                self.assertIs(is_ladder(((0, 1), row)), False)

    def test_any_things(self):
        for thing in any_things():
            with self.subTest(thing=thing):
                before = copied(thing)
                self.assertIs(is_ladder(thing), False)
                self.assertTrue(same(thing, before))


class OrderTest(unittest.TestCase):
    """1.2"""

    def test_is_below(self):
        for ladder in LADDERS + BEYOND:
            for x, y in itertools.product(range(len(ladder)), repeat=2):
                self.assertIs(is_below(ladder, x, y), ladder[x][y] == y)

    def test_is_below_by_hand(self):
        self.assertIs(is_below(DIAMOND, 0, 3), True)
        self.assertIs(is_below(DIAMOND, 3, 0), False)
        self.assertIs(is_below(DIAMOND, 1, 2), False)
        self.assertIs(is_below(DIAMOND, 2, 2), True)
        self.assertIs(is_below(DOWNWARD_CHAIN, 3, 0), True)

    def test_least_and_greatest(self):
        for ladder in LADDERS + BEYOND:
            with self.subTest(ladder):
                many = range(len(ladder))
                self.assertEqual([least_of(ladder)], [x for x in many if all(leq(ladder, x, y) for y in many)])
                self.assertEqual([greatest_of(ladder)], [x for x in many if all(leq(ladder, y, x) for y in many)])

    def test_least_and_greatest_by_hand(self):
        self.assertEqual((least_of(ONE), greatest_of(ONE)), (0, 0))
        self.assertEqual((least_of(chain(16)), greatest_of(chain(16))), (0, 15))
        self.assertEqual((least_of(DOWNWARD_CHAIN), greatest_of(DOWNWARD_CHAIN)), (3, 0))
        self.assertEqual((least_of(ODD_DIAMOND), greatest_of(ODD_DIAMOND)), (2, 1))

    def test_below(self):
        for ladder in LADDERS + BEYOND:
            for x in range(len(ladder)):
                self.assertTrue(same(below(ladder, x), [y for y in range(len(ladder)) if leq(ladder, y, x)]))

    def test_below_by_hand(self):
        self.assertEqual(below(PENTAGON, 2), [0, 1, 2])
        self.assertEqual(below(ODD_DIAMOND, 3), [2, 3])
        self.assertEqual(below(DOWNWARD_CHAIN, 1), [1, 2, 3])
        self.assertEqual(below(ONE, 0), [0])

    def test_below_tells_a_new_list(self):
        first = below(DIAMOND, 3)
        first.append(7)
        self.assertEqual(below(DIAMOND, 3), [0, 1, 2, 3])

    def test_joined_all(self):
        for ladder in LADDERS + BEYOND:
            many = range(len(ladder))
            self.assertEqual(joined_all(ladder, []), [x for x in many if all(leq(ladder, x, y) for y in many)][0])
            for x, y in itertools.product(many, repeat=2):
                self.assertEqual(joined_all(ladder, [x]), x)
                self.assertEqual(joined_all(ladder, [x, y, x]), ladder[x][y])

    def test_joined_all_by_hand(self):
        self.assertEqual(joined_all(subsets(4), [1, 8, 4]), 13)
        self.assertEqual(joined_all(DOWNWARD_CHAIN, []), 3)
        self.assertEqual(joined_all(DOWNWARD_CHAIN, [3, 1, 2]), 1)
        self.assertEqual(joined_all(ONE, []), 0)

    def test_joined_all_leaves_its_list(self):
        worths = [2, 1, 2]
        joined_all(DIAMOND, worths)
        self.assertEqual(worths, [2, 1, 2])

    def test_met(self):
        for ladder in LADDERS + BEYOND:
            many = range(len(ladder))
            for x, y in itertools.product(many, repeat=2):
                both = [z for z in many if leq(ladder, z, x) and leq(ladder, z, y)]
                greatest = [z for z in both if all(leq(ladder, other, z) for other in both)]
                self.assertEqual([met(ladder, x, y)], greatest)

    def test_met_by_hand(self):
        self.assertEqual(met(subsets(4), 11, 13), 9)
        self.assertEqual(met(THREE_ABREAST, 1, 2), 0)
        self.assertEqual(met(PENTAGON, 4, 2), 2)
        self.assertEqual(met(DOWNWARD_CHAIN, 0, 2), 2)


class FormTest(unittest.TestCase):
    """1.3 and 0.2 (a)"""

    def test_turned_is_a_ladder_of_meets(self):
        for ladder in LADDERS:
            with self.subTest(ladder):
                upside = turned(ladder)
                self.assertIs(is_ladder(upside), True)
                self.assertEqual(upside, table_of(len(ladder), lambda x, y: met(ladder, x, y)))

    def test_turned_again_is_itself(self):
        for ladder in LADDERS + BEYOND:
            with self.subTest(ladder):
                self.assertTrue(same(turned(turned(ladder)), ladder))

    def test_turned_by_hand(self):
        self.assertEqual(turned(ONE), ONE)
        self.assertEqual(turned(chain(4)), DOWNWARD_CHAIN)
        self.assertEqual(turned(subsets(3)), table_of(8, lambda x, y: x & y))

    def test_height(self):
        for ladder in [ladder for ladder in LADDERS if len(ladder) < 16]:
            with self.subTest(ladder):
                least = [x for x in range(len(ladder)) if ladder[x] == tuple(range(len(ladder)))][0]
                self.assertEqual(height_of(ladder), max(lengths_upward(ladder, least)))

    def test_height_by_hand(self):
        heights = [
            (ONE, 0), (chain(2), 1), (chain(16), 15), (chain(17), 16), (DOWNWARD_CHAIN, 3), (DIAMOND, 2),
            (subsets(4), 4), (divisors(12), 3), (THREE_ABREAST, 2), (PENTAGON, 3), (ODD_PENTAGON, 3),
            (FOURTEEN_ABREAST, 2),
        ]
        for ladder, height in heights:
            with self.subTest(ladder):
                self.assertEqual(height_of(ladder), height)

    def test_corners_are_no_join_of_two_less_ones(self):
        for ladder in LADDERS + BEYOND:
            many = range(len(ladder))
            wanted = []
            for x in many:
                less = [y for y in many if y != x and leq(ladder, y, x)]
                if less and all(ladder[y][z] != x for y in less for z in less):
                    wanted.append(x)
            self.assertTrue(same(corners(ladder), wanted))

    def test_corners_by_hand(self):
        self.assertEqual(corners(ONE), [])
        self.assertEqual(corners(chain(5)), [1, 2, 3, 4])
        self.assertEqual(corners(DOWNWARD_CHAIN), [0, 1, 2])
        self.assertEqual(corners(subsets(4)), [1, 2, 4, 8])
        self.assertEqual(corners(ODD_DIAMOND), [0, 3])
        self.assertEqual(corners(PENTAGON), [1, 2, 3])

    def test_corners_tells_a_new_list(self):
        first = corners(DIAMOND)
        first.clear()
        self.assertEqual(corners(DIAMOND), [1, 2])

    def test_is_parting(self):
        for ladder in PARTING:
            with self.subTest(ladder):
                self.assertIs(is_parting(ladder), True)
        for ladder in NOT_PARTING:
            with self.subTest(ladder):
                self.assertIs(is_parting(ladder), False)


class MadeLaddersTest(unittest.TestCase):
    """1.4"""

    def test_chain_ladder(self):
        for many in range(1, 17):
            self.assertTrue(same(chain_ladder(many), chain(many)))
            self.assertIs(is_ladder(chain_ladder(many)), True)
        self.assertEqual(chain_ladder(3), ((0, 1, 2), (1, 1, 2), (2, 2, 2)))

    def test_chain_ladder_too_great(self):
        for many in (0, -1, -20, 17, 18, 400, 10 ** 30):
            with self.subTest(many):
                self.assertRaises(TooGreat, chain_ladder, many)

    def test_flat_ladder(self):
        for many in range(15):
            ladder = flat_ladder(many)
            self.assertIs(is_ladder(ladder), True)
            self.assertEqual(len(ladder), many + 2)
            self.assertEqual((least_of(ladder), greatest_of(ladder)), (0, many + 1))
            for x, y in itertools.product(range(1, many + 1), repeat=2):
                self.assertEqual(ladder[x][y], x if x == y else many + 1)
            self.assertTrue(all(kind is int for row in ladder for kind in map(type, row)))

    def test_flat_ladder_by_hand(self):
        self.assertEqual(flat_ladder(0), ((0, 1), (1, 1)))
        self.assertEqual(flat_ladder(1), chain(3))
        self.assertEqual(flat_ladder(2), DIAMOND)
        self.assertEqual(flat_ladder(3), THREE_ABREAST)
        self.assertEqual(flat_ladder(14), FOURTEEN_ABREAST)

    def test_flat_ladder_too_great(self):
        for many in (-1, -2, -3, -20, 15, 16, 400, 10 ** 30):
            with self.subTest(many):
                self.assertRaises(TooGreat, flat_ladder, many)

    def test_paired(self):
        for one, other in itertools.product(LADDERS, repeat=2):
            if len(one) * len(other) <= 16:
                wide = len(other)
                ladder = paired(one, other)
                self.assertIs(is_ladder(ladder), True)
                self.assertEqual(len(ladder), len(one) * wide)
                couples = list(itertools.product(range(len(one)), range(wide)))
                for (x, y), (v, w) in itertools.product(couples, repeat=2):
                    self.assertEqual(ladder[x * wide + y][v * wide + w], one[x][v] * wide + other[y][w])

    def test_paired_by_hand(self):
        self.assertTrue(same(paired(ONE, PENTAGON), PENTAGON))
        self.assertTrue(same(paired(PENTAGON, ONE), PENTAGON))
        self.assertEqual(paired(chain(2), chain(2)), subsets(2))
        self.assertEqual(paired(subsets(2), subsets(2)), subsets(4))
        self.assertEqual(paired(chain(3), chain(2))[1][4], 5)

    def test_paired_too_great(self):
        self.assertEqual(len(paired(chain(16), ONE)), 16)
        self.assertEqual(len(paired(chain(8), chain(2))), 16)
        self.assertEqual(len(paired(chain(5), chain(3))), 15)
        wrong = [
            (chain(17), ONE), (ONE, chain(17)), (chain(6), chain(3)), (chain(3), chain(6)), (chain(16), chain(2)),
            (chain(16), chain(16)),
        ]
        for one, other in wrong:
            with self.subTest(one=one, other=other):
                self.assertRaises(TooGreat, paired, one, other)
