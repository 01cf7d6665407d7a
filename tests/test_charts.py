import itertools
import unittest

from ladderhall.charts import is_answer, is_chart, is_no_less, joined_answers
from tests.samples import (
    BEYOND, DIAMOND, DOWNWARD_CHAIN, LADDERS, ODD_DIAMOND, ONE, PENTAGON, any_things, chain, copied, is_answer_told,
    leq, same,
)

THREE = chain(3)
UP = (1, 2, 2)
PLAIN = (0, 1, 2)


def charts_of(ladder):
    """Some charts over a ladder, with and without ways and begins."""
    plain = tuple(range(len(ladder)))
    last = len(ladder) - 1
    all_to_last = (last,) * len(ladder)
    joined_last = ladder[last]
    return [
        (1, (), ()),
        (2, (), ((0, last), (1, 0))),
        (2, ((0, 1, plain), (1, 0, plain)), ()),
        (3, ((0, 1, plain), (1, 2, joined_last), (2, 2, plain)), ((0, last),)),
        (3, ((2, 0, joined_last), (0, 0, plain)), ((1, 0), (1, last))),
        (3, ((0, 2, all_to_last), (0, 2, all_to_last)), ((2, 0),)),
    ]


class IsChartTest(unittest.TestCase):
    """3.1"""

    def assert_no_chart(self, thing, ladder=THREE):
        before = copied(thing)
        self.assertIs(is_chart(ladder, thing), False)
        self.assertTrue(same(thing, before))

    def test_charts(self):
        for ladder in LADDERS + BEYOND:
            for chart in charts_of(ladder):
                with self.subTest(chart):
                    self.assertIs(is_chart(ladder, chart), True)

    def test_many_places(self):
        for places in (1, 2, 7, 8):
            self.assertIs(is_chart(THREE, (places, (), ())), True)
        for places in (0, -1, 9, 10 ** 30):
            self.assert_no_chart((places, (), ()))

    def test_many_ways(self):
        way = (0, 1, UP)
        self.assertIs(is_chart(THREE, (2, (way,) * 59, ())), True)
        self.assertIs(is_chart(THREE, (2, (way,) * 60, ())), True)
        self.assert_no_chart((2, (way,) * 61, ()))

    def test_many_begins(self):
        begin = (1, 2)
        self.assertIs(is_chart(THREE, (2, (), (begin,) * 59)), True)
        self.assertIs(is_chart(THREE, (2, (), (begin,) * 60)), True)
        self.assert_no_chart((2, (), (begin,) * 61))
        self.assertIs(is_chart(THREE, (2, ((0, 1, UP),) * 60, (begin,) * 60)), True)

    def test_ways_to_the_same_place(self):
        self.assertIs(is_chart(THREE, (1, ((0, 0, UP),), ())), True)

    def test_places_are_a_whole_number(self):
        for places in (True, False, None, "1", "", (1,), [1], ()):
            with self.subTest(places=places):
                self.assert_no_chart((places, (), ()))

    def test_parts_too_few_or_too_many(self):
        for thing in ((), (1,), (1, ()), (1, (), (), ()), ((1, (), ()),)):
            with self.subTest(thing=thing):
                self.assert_no_chart(thing)

    def test_lists_for_tuples(self):
        self.assertIs(is_chart(THREE, (2, ((0, 1, UP),), ((0, 2),))), True)
        self.assert_no_chart([2, ((0, 1, UP),), ((0, 2),)])
        self.assert_no_chart((2, [(0, 1, UP)], ((0, 2),)))
        self.assert_no_chart((2, ([0, 1, UP],), ((0, 2),)))
        self.assert_no_chart((2, ((0, 1, list(UP)),), ((0, 2),)))
        self.assert_no_chart((2, ((0, 1, UP),), [(0, 2)]))
        self.assert_no_chart((2, ((0, 1, UP),), ([0, 2],)))
        self.assert_no_chart((2, [], ()))
        self.assert_no_chart((2, (), []))

    def test_wrong_ways(self):
        wrong = [
            (2, 0, UP), (0, 2, UP), (-1, 0, UP), (0, -1, UP), (True, 0, UP), (0, False, UP), (0, True, UP),
            (False, 0, UP), (None, 0, UP), (0, None, UP), ("0", 0, UP), (0, "0", UP), ((0,), 0, UP), (0, [0], UP),
            (), (0,), (0, 1), (0, 1, UP, UP), (0, 1, UP, 0), UP, None, 0, "way", ((0, 1, UP),), (0, 0, 1),
        ]
        for way in wrong:
            with self.subTest(way=way):
                self.assert_no_chart((2, (way,), ()))
                self.assert_no_chart((2, ((0, 1, UP), way), ()))
                self.assert_no_chart((2, (way, (0, 1, UP)), ((0, 1),)))

    def test_wrong_rules(self):
        wrong = [
            (0, 1), (0, 1, 2, 2), (), (0, 1, 3), (-1, 0, 0), (0, True, 2), (False, 1, 2), (0, None, 2), ("0", "1", "2"),
            ((0,), (1,), (2,)), "012", None, 0, True, [0, 1, 2], (1, 0, 2), (2, 1, 0), (0, 2, 1),
        ]
        for rule in wrong + any_things():
            with self.subTest(rule=rule):
                self.assert_no_chart((2, ((0, 1, rule),), ()))

    def test_a_rule_rises_by_the_order_of_its_ladder(self):
        chart = (1, ((0, 0, (0, 0, 1, 2)),), ())
        self.assertIs(is_chart(chain(4), chart), True)
        self.assertIs(is_chart(DOWNWARD_CHAIN, chart), True)
        self.assert_no_chart(chart, DIAMOND)
        chart = (1, ((0, 0, (0, 2, 1, 3)),), ())
        self.assertIs(is_chart(DIAMOND, chart), True)
        self.assert_no_chart(chart, chain(4))

    def test_rules_that_rise_and_do_not_spread(self):
        self.assertIs(is_chart(DIAMOND, (1, ((0, 0, (0, 0, 0, 3)),), ())), True)

    def test_wrong_begins(self):
        wrong = [
            (2, 0), (-1, 0), (0, 3), (0, -1), (True, 0), (False, 0), (0, True), (0, False), (None, 0), (0, None),
            ("0", 0), (0, "0"), ((0,), 0), (0, (0,)), (0, [0]), (), (0,), (0, 0, 0), None, 0, "00", ((0, 0),),
        ]
        for begin in wrong + any_things():
            with self.subTest(begin=begin):
                self.assert_no_chart((2, (), (begin,)))
                self.assert_no_chart((2, ((0, 1, UP),), ((1, 2), begin)))
                self.assert_no_chart((2, (), (begin, (1, 2))))

    def test_wrong_ways_and_begins_as_a_whole(self):
        for thing in any_things():
            with self.subTest(thing=thing):
                self.assert_no_chart((2, thing, ()))
                self.assert_no_chart((2, (), thing))

    def test_any_things(self):
        for thing in any_things():
            with self.subTest(thing=thing):
                self.assert_no_chart(thing)
                self.assert_no_chart(thing, ONE)


class IsAnswerTest(unittest.TestCase):
    """3.2"""

    def test_all_worths_of_small_charts(self):
        for ladder in [ladder for ladder in LADDERS if len(ladder) <= 6]:
            for chart in charts_of(ladder):
                for worths in itertools.product(range(len(ladder)), repeat=chart[0]):
                    self.assertIs(is_answer(ladder, chart, worths), is_answer_told(ladder, chart, worths))

    def test_begins(self):
        chart = (2, (), ((1, 1), (1, 0), (0, 2)))
        self.assertIs(is_answer(THREE, chart, (2, 1)), True)
        self.assertIs(is_answer(THREE, chart, (2, 2)), True)
        self.assertIs(is_answer(THREE, chart, (2, 0)), False)
        self.assertIs(is_answer(THREE, chart, (1, 1)), False)

    def test_ways(self):
        chart = (2, ((0, 1, UP), (1, 1, PLAIN)), ())
        self.assertIs(is_answer(THREE, chart, (0, 1)), True)
        self.assertIs(is_answer(THREE, chart, (0, 0)), False)
        self.assertIs(is_answer(THREE, chart, (1, 1)), False)
        self.assertIs(is_answer(THREE, chart, (1, 2)), True)
        self.assertIs(is_answer(THREE, chart, (2, 2)), True)

    def test_order_of_the_ladder_counts(self):
        chart = (1, (), ((0, 1),))
        self.assertEqual([is_answer(DIAMOND, chart, (x,)) for x in range(4)], [False, True, False, True])
        self.assertEqual([is_answer(DOWNWARD_CHAIN, chart, (x,)) for x in range(4)], [True, True, False, False])

    def test_charts_and_ladders_beyond_the_bounds(self):
        many = (9, ((0, 8, UP),) * 61, ((0, 1),) * 61)
        self.assertIs(is_answer(THREE, many, (1, 0, 0, 0, 0, 0, 0, 0, 2)), True)
        self.assertIs(is_answer(THREE, many, (1, 0, 0, 0, 0, 0, 0, 0, 1)), False)
        self.assertIs(is_answer(chain(17), (1, (), ((0, 16),)), (16,)), True)
        self.assertIs(is_answer(chain(17), (1, (), ((0, 16),)), (15,)), False)

    def test_what_is_no_worths_of_places(self):
        wrong = [
            (), (2,), (2, 2, 2), (2, 3), (3, 2), (-1, 2), (2, -1), (True, 2), (2, True), (True, True), [2, 2],
            ([2], [2]), ((2,), (2,)), ((2, 2),), (2, None), (None, 2), ("2", "2"), "22", None, 2, True, False,
        ]
        for chart in ((2, (), ()), (2, ((0, 1, UP),), ((0, 1),))):
            for thing in wrong + any_things():
                with self.subTest(chart=chart, thing=thing):
                    before = copied(thing)
                    self.assertIs(is_answer(THREE, chart, thing), False)
                    self.assertTrue(same(thing, before))

    def test_what_is_no_worths_of_one_place(self):
        for thing in any_things() + [(), (1,), (-1,), (False,), [0], (0, 0)]:
            with self.subTest(thing=thing):
                self.assertIs(is_answer(ONE, (1, (), ()), thing), False)
        self.assertIs(is_answer(ONE, (1, (), ()), (0,)), True)


class WorthsOfPlacesTest(unittest.TestCase):
    """3.2"""

    def test_is_no_less(self):
        for ladder in (ONE, THREE, DOWNWARD_CHAIN, ODD_DIAMOND, PENTAGON):
            some = list(itertools.product(range(len(ladder)), repeat=2))
            for one, other in itertools.product(some, repeat=2):
                wanted = leq(ladder, other[0], one[0]) and leq(ladder, other[1], one[1])
                self.assertIs(is_no_less(ladder, one, other), wanted)

    def test_is_no_less_by_hand(self):
        self.assertIs(is_no_less(THREE, (2, 1, 0), (1, 1, 0)), True)
        self.assertIs(is_no_less(THREE, (1, 1, 0), (2, 1, 0)), False)
        self.assertIs(is_no_less(THREE, (2, 2, 0), (0, 0, 1)), False)
        self.assertIs(is_no_less(DIAMOND, (1,), (2,)), False)
        self.assertIs(is_no_less(DOWNWARD_CHAIN, (0, 1), (3, 2)), True)

    def test_joined_answers(self):
        for ladder in (ONE, THREE, DOWNWARD_CHAIN, ODD_DIAMOND, PENTAGON):
            some = list(itertools.product(range(len(ladder)), repeat=2))
            for one, other in itertools.product(some, repeat=2):
                wanted = (ladder[one[0]][other[0]], ladder[one[1]][other[1]])
                self.assertTrue(same(joined_answers(ladder, one, other), wanted))

    def test_joined_answers_by_hand(self):
        self.assertTrue(same(joined_answers(DIAMOND, (0, 1, 2), (0, 2, 2)), (0, 3, 2)))
        self.assertTrue(same(joined_answers(THREE, (0, 1, 2, 0, 1, 2, 0, 1), (1,) * 8), (1, 1, 2, 1, 1, 2, 1, 1)))
        self.assertTrue(same(joined_answers(THREE, (2,), (0,)), (2,)))
