import functools
import itertools
import unittest

from ladderhall.errors import NoMap
from ladderhall.ladders import paired
from ladderhall.maps import after_map, back_of, is_map, mapped_chart, mapped_rule, mapped_worths, paired_rules
from ladderhall.solving import least
from tests.samples import (
    BEYOND, DIAMOND, DOWNWARD_CHAIN, FOURTEEN_ABREAST, GREAT_SHAPES, LADDERS, ODD_CUBE, ODD_DIAMOND, ODD_DIVISORS,
    ODD_PENTAGON, ONE, PENTAGON, SHAPES, THREE_ABREAST, all_rules, any_things, are_leq, chain, charts_over, copied,
    couples, is_rising, least_found, least_risen, leq, lowest_told, rules_of, same, subsets,
)

TWO = chain(2)
THREE = chain(3)
FOUR = chain(4)
UP = (1, 2, 2)
DOWN = (0, 0, 1)
PLAIN = (0, 1, 2)
SMALL = [ONE, TWO, THREE, FOUR, DOWNWARD_CHAIN, DIAMOND, ODD_DIAMOND]


def tables_between(ladder, other):
    return itertools.product(range(len(other)), repeat=len(ladder))


def is_map_told(ladder, other, table):
    for x, y in itertools.product(range(len(ladder)), repeat=2):
        if table[ladder[x][y]] != other[table[x]][table[y]]:
            return False
    return table[lowest_told(ladder, (1,))[0]] == lowest_told(other, (1,))[0]


@functools.cache
def maps_between(ladder, other):
    return [table for table in tables_between(ladder, other) if is_map_told(ladder, other, table)]


def couples_to_parts(one, other):
    """The maps of a ladder of couples to the first and to the second part."""
    wide = len(other)
    numbers = range(len(one) * wide)
    return [
        (couples(one, other), one, tuple(x // wide for x in numbers)),
        (couples(one, other), other, tuple(x % wide for x in numbers)),
    ]


def maps_by_hand():
    """Ladder, other ladder and map, among them maps of greater ladders."""
    yield from couples_to_parts(DIAMOND, chain(3))
    yield from couples_to_parts(DOWNWARD_CHAIN, ODD_DIAMOND)
    yield from couples_to_parts(chain(8), TWO)
    yield subsets(4), chain(16), tuple((0, 1)[x > 0] * 7 for x in range(16))
    yield subsets(4), subsets(2), tuple(x & 3 for x in range(16))
    yield subsets(2), subsets(4), (0, 5, 10, 15)
    yield chain(16), FOURTEEN_ABREAST, tuple(0 if x < 3 else 9 if x < 12 else 15 for x in range(16))
    for ladder in LADDERS + BEYOND:
        yield ladder, ladder, tuple(range(len(ladder)))
        yield ladder, ONE, (0,) * len(ladder)
        yield ONE, ladder, lowest_told(ladder, (1,))
        yield ladder, ODD_DIAMOND, (2,) * len(ladder)


def small_maps():
    for ladder, other in itertools.product(SMALL, SMALL):
        for mapping in maps_between(ladder, other):
            yield ladder, other, mapping


def maps_for_charts():
    """Fewer of the small ones, so that charts can be mapped by each."""
    yield from itertools.islice(small_maps(), 0, None, 7)
    yield from maps_by_hand()


def back_told(ladder, other, mapping):
    told = []
    for worth in range(len(other)):
        led = [x for x in range(len(ladder)) if leq(other, mapping[x], worth)]
        told.append(next(x for x in led if all(leq(ladder, y, x) for y in led)))
    return tuple(told)


def mapped_rule_told(ladder, other, mapping, rule):
    back = back_told(ladder, other, mapping)
    return tuple(mapping[rule[back[worth]]] for worth in range(len(other)))


def mapped_chart_told(ladder, other, mapping, chart):
    places, ways, begins = chart
    mapped = tuple((start, goal, mapped_rule_told(ladder, other, mapping, rule)) for start, goal, rule in ways)
    return (places, mapped, tuple((place, mapping[worth]) for place, worth in begins))


def no_maps():
    """Ladder, other ladder and what is no map from the one to the other."""
    wrong = [
        # Too short, too long, out of range.
        (0, 1), (0, 1, 1, 1), (), (0, 1, 2), (0, -1, 1), (-2, 0, 1), (0, 0, 10 ** 30),
        # The least worth led elsewhere.
        (1, 1, 1),
        # One that does not rise, so that a join is led elsewhere.
        (0, 1, 0),
        # Not of whole numbers, or no tuple.
        (False, 0, 0), (0, True, True), (0, None, 1), ("0", "1", "1"), ((0,), (1,), (1,)), [0, 1, 1], "011", "", None,
        ([0, 1, 1],), ((0, 1, 1),), 0, 1, True, False,
    ]
    for thing in wrong + any_things():
        yield THREE, TWO, thing
    # Both rise and lead the least worth to the least, and the one join of two side by side elsewhere.
    yield DIAMOND, TWO, (0, 0, 0, 1)
    yield DIAMOND, DIAMOND, (0, 1, 1, 3)
    yield THREE_ABREAST, TWO, (0, 0, 0, 0, 1)
    yield PENTAGON, FOUR, (0, 1, 1, 1, 2)
    # Spreads, and leads the least worth elsewhere.
    yield DIAMOND, DIAMOND, (1, 1, 3, 3)
    yield DOWNWARD_CHAIN, TWO, (0, 0, 1, 1)
    yield ONE, TWO, (1,)
    for thing in any_things() + [(1,), (-1,), (), (0, 0), [0], (False,)]:
        yield ONE, ONE, thing


class IsMapTest(unittest.TestCase):
    """10.1"""

    def test_all_tables_between_small_ladders(self):
        for ladder, other in itertools.product(SMALL, SMALL):
            for table in tables_between(ladder, other):
                self.assertIs(is_map(ladder, other, table), is_map_told(ladder, other, table), (ladder, other, table))

    def test_greater_ladders(self):
        for ladder, other in ((PENTAGON, TWO), (TWO, ODD_PENTAGON), (ODD_CUBE, TWO), (ODD_DIVISORS, THREE)):
            for table in tables_between(ladder, other):
                self.assertIs(is_map(ladder, other, table), is_map_told(ladder, other, table), (ladder, other, table))

    def test_maps_by_hand(self):
        for ladder, other, mapping in maps_by_hand():
            self.assertIs(is_map(ladder, other, mapping), True)

    def test_no_maps(self):
        for ladder, other, thing in no_maps():
            with self.subTest(ladder=ladder, other=other, thing=thing):
                before = copied(thing)
                self.assertIs(is_map(ladder, other, thing), False)
                self.assertTrue(same(thing, before))

    def test_one_entry_put_elsewhere(self):
        for ladder, other, mapping in maps_by_hand():
            for place, worth in itertools.product(range(len(mapping)), range(len(other))):
                changed = mapping[:place] + (worth,) + mapping[place + 1:]
                self.assertIs(is_map(ladder, other, changed), is_map_told(ladder, other, changed))


class BackOfTest(unittest.TestCase):
    """10.1"""

    def test_against_a_search(self):
        for ladder, other, mapping in itertools.chain(small_maps(), maps_by_hand()):
            self.assertTrue(same(back_of(ladder, other, mapping), back_told(ladder, other, mapping)))

    def test_by_hand(self):
        self.assertTrue(same(back_of(THREE, TWO, (0, 0, 1)), (1, 2)))
        self.assertTrue(same(back_of(THREE, FOUR, (0, 1, 3)), (0, 1, 1, 2)))
        self.assertTrue(same(back_of(DIAMOND, THREE, (0, 2, 1, 2)), (0, 2, 3)))
        self.assertTrue(same(back_of(THREE, DIAMOND, (0, 1, 3)), (0, 1, 0, 2)))
        self.assertTrue(same(back_of(DOWNWARD_CHAIN, TWO, (1, 1, 0, 0)), (2, 0)))
        self.assertTrue(same(back_of(THREE, ONE, (0, 0, 0)), (2,)))
        self.assertTrue(same(back_of(ONE, THREE, (0,)), (0, 0, 0)))

    def test_no_map(self):
        for ladder, other, thing in no_maps():
            with self.subTest(ladder=ladder, other=other, thing=thing):
                before = copied(thing)
                self.assertRaises(NoMap, back_of, ladder, other, thing)
                self.assertTrue(same(thing, before))


class AfterMapTest(unittest.TestCase):
    """10.1"""

    def test_first_the_one_and_then_the_other(self):
        for ladder, middle, other in itertools.product((ONE, THREE, ODD_DIAMOND), repeat=3):
            for mapping, then in itertools.product(maps_between(ladder, middle), maps_between(middle, other)):
                told = after_map(mapping, then)
                self.assertTrue(same(told, tuple(then[worth] for worth in mapping)))
                self.assertIs(is_map(ladder, other, told), True)

    def test_any_such_tuples(self):
        self.assertTrue(same(after_map((2, 0, 1, 2), (5, 3, 4)), (4, 5, 3, 4)))
        self.assertTrue(same(after_map((1,), (7, 6, 5)), (6,)))
        for mapping, then in itertools.product(tables_between(TWO, THREE), tables_between(THREE, TWO)):
            self.assertTrue(same(after_map(mapping, then), tuple(then[worth] for worth in mapping)))


class MappedRuleTest(unittest.TestCase):
    """10.2"""

    def test_word_for_word(self):
        for ladder, other, mapping in itertools.chain(small_maps(), maps_by_hand()):
            for rule in rules_of(ladder)[::5]:
                told = mapped_rule(ladder, other, mapping, rule)
                self.assertTrue(same(told, mapped_rule_told(ladder, other, mapping, rule)))
                self.assertTrue(is_rising(other, told))

    def test_by_hand(self):
        self.assertTrue(same(mapped_rule(THREE, TWO, (0, 0, 1), PLAIN), (0, 1)))
        self.assertTrue(same(mapped_rule(THREE, TWO, (0, 0, 1), UP), (1, 1)))
        self.assertTrue(same(mapped_rule(THREE, TWO, (0, 1, 1), UP), (1, 1)))
        self.assertTrue(same(mapped_rule(THREE, TWO, (0, 1, 1), DOWN), (0, 1)))
        self.assertTrue(same(mapped_rule(THREE, TWO, (0, 0, 1), DOWN), (0, 0)))
        self.assertTrue(same(mapped_rule(TWO, DIAMOND, (0, 2), (0, 1)), (0, 0, 2, 2)))
        self.assertTrue(same(mapped_rule(TWO, ONE, (0, 0), (1, 1)), (0,)))

    def test_no_map(self):
        for ladder, other, thing in no_maps():
            with self.subTest(ladder=ladder, other=other, thing=thing):
                before = copied(thing)
                self.assertRaises(NoMap, mapped_rule, ladder, other, thing, tuple(range(len(ladder))))
                self.assertTrue(same(thing, before))


class MappedChartTest(unittest.TestCase):
    """10.2 and 0.2 (h)"""

    def charts_of(self, ladder):
        return charts_over(ladder, rules_of(ladder), SHAPES + GREAT_SHAPES[:1], 1)

    def test_word_for_word(self):
        for ladder, other, mapping in maps_for_charts():
            for chart in self.charts_of(ladder):
                wanted = mapped_chart_told(ladder, other, mapping, chart)
                self.assertTrue(same(mapped_chart(ladder, other, mapping, chart), wanted))

    def test_no_less_than_the_mapped_least_answer(self):
        for ladder, other, mapping in maps_for_charts():
            for chart in self.charts_of(ladder):
                mapped = mapped_chart(ladder, other, mapping, chart)
                led = tuple(mapping[worth] for worth in least_risen(ladder, chart))
                self.assertTrue(are_leq(other, led, least_risen(other, mapped)))
                self.assertTrue(are_leq(other, mapped_worths(mapping, least(ladder, chart)), least(other, mapped)))

    def test_more_than_it_somewhere(self):
        chart = (2, ((0, 1, DOWN),), ((0, 1),))
        mapped = mapped_chart(THREE, TWO, (0, 1, 1), chart)
        self.assertTrue(same(mapped, (2, ((0, 1, (0, 1)),), ((0, 1),))))
        self.assertEqual(mapped_worths((0, 1, 1), least(THREE, chart)), (1, 0))
        self.assertEqual(least(TWO, mapped), (1, 1))

    def test_by_hand(self):
        chart = (3, ((2, 0, UP), (0, 1, PLAIN), (2, 0, UP)), ((2, 1), (0, 2), (2, 1)))
        wanted = (3, ((2, 0, (1, 1)), (0, 1, (0, 1)), (2, 0, (1, 1))), ((2, 0), (0, 1), (2, 0)))
        self.assertTrue(same(mapped_chart(THREE, TWO, (0, 0, 1), chart), wanted))
        self.assertTrue(same(mapped_chart(THREE, TWO, (0, 0, 1), (2, (), ())), (2, (), ())))

    def test_by_the_plain_map_nothing_changes(self):
        for ladder in LADDERS:
            plain = tuple(range(len(ladder)))
            for chart in self.charts_of(ladder):
                self.assertTrue(same(mapped_chart(ladder, ladder, plain, chart), chart))

    def test_no_map(self):
        for ladder, other, thing in no_maps():
            plain, bottom = tuple(range(len(ladder))), lowest_told(ladder, (1,))[0]
            whole = (2, ((0, 1, plain),), ((0, bottom),))
            for chart in (whole, (2, (), whole[2]), (2, whole[1], ()), (1, (), ())):
                with self.subTest(ladder=ladder, other=other, thing=thing, chart=chart):
                    before = copied((thing, chart))
                    self.assertRaises(NoMap, mapped_chart, ladder, other, thing, chart)
                    self.assertTrue(same((thing, chart), before))


class MappedWorthsTest(unittest.TestCase):
    """10.2"""

    def test_each_led_by_the_map(self):
        for ladder, other, mapping in maps_for_charts():
            worths = tuple(x * x % len(ladder) for x in range(8))
            self.assertTrue(same(mapped_worths(mapping, worths), tuple(mapping[worth] for worth in worths)))

    def test_by_hand(self):
        self.assertTrue(same(mapped_worths((0, 5, 7), (2, 2, 0, 1)), (7, 7, 0, 5)))
        self.assertTrue(same(mapped_worths((3, 2, 1, 0), (1,)), (2,)))


class PairedRulesTest(unittest.TestCase):
    """10.3 and 0.2 (h)"""

    def test_couples_of_what_the_two_lead_to(self):
        for one, other in itertools.product((ONE, TWO, THREE), repeat=2):
            for first, second in itertools.product(all_rules(one), all_rules(other)):
                told = paired_rules(first, second)
                self.assertIsInstance(told, tuple)
                self.assertEqual(len(told), len(one) * len(other))
                for x, y in itertools.product(range(len(one)), range(len(other))):
                    wanted = first[x] * len(other) + second[y]
                    self.assertTrue(same(told[x * len(other) + y], wanted))

    def test_by_hand(self):
        self.assertTrue(same(paired_rules((1, 0), (0, 0, 1)), (3, 3, 4, 0, 0, 1)))
        self.assertTrue(same(paired_rules((0, 0, 1), (1, 0)), (1, 0, 1, 0, 3, 2)))
        self.assertTrue(same(paired_rules((0,), (0,)), (0,)))
        self.assertTrue(same(paired_rules((0,), UP), UP))
        self.assertTrue(same(paired_rules(UP, (0,)), UP))

    def test_rises_over_the_couples(self):
        for one, other in ((THREE, TWO), (DIAMOND, FOUR), (DOWNWARD_CHAIN, ODD_DIAMOND)):
            for first, second in itertools.product(rules_of(one)[::4], rules_of(other)[::4]):
                self.assertTrue(is_rising(paired(one, other), paired_rules(first, second)))

    def test_more_than_16_couples(self):
        plain = tuple(range(16))
        self.assertTrue(same(paired_rules(plain, plain), tuple(range(256))))

    def charts_of_couples(self, one, other, turns):
        """Two charts with ways between the same places and begins at the same ones, and their couple."""
        ones = charts_over(one, rules_of(one), SHAPES, turns)
        others = charts_over(other, rules_of(other)[::-1], SHAPES, turns)
        for first, second in zip(ones, others):
            ways = tuple(
                (start, goal, paired_rules(rule, then))
                for (start, goal, rule), (_, _, then) in zip(first[1], second[1])
            )
            begins = tuple((place, x * len(other) + y) for (place, x), (_, y) in zip(first[2], second[2]))
            yield first, second, (first[0], ways, begins)

    def test_couples_have_couples_of_least_answers(self):
        for one, other in ((THREE, TWO), (DIAMOND, THREE), (DOWNWARD_CHAIN, ODD_DIAMOND), (ONE, FOUR), (TWO, ODD_CUBE)):
            for first, second, both in self.charts_of_couples(one, other, 4):
                parts = zip(least_found(one, first), least_found(other, second))
                wanted = tuple(x * len(other) + y for x, y in parts)
                self.assertTrue(same(least(paired(one, other), both), wanted), (one, other, both))
