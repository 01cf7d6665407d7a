import itertools
import unittest

from ladderhall.errors import NoStep
from ladderhall.solving import gone, is_least_at, is_paper, least, least_by, lowest, missing, paper_for
from tests.samples import (
    BEYOND, DIAMOND, DOWNWARD_CHAIN, LADDERS, ODD_DIAMOND, ONE, all_worths, any_things, are_leq, behind, chain, copied,
    great_charts, is_answer_told, least_found, least_risen, leq, lowest_told, same, small_charts, steps_of,
)

THREE = chain(3)
FIVE = chain(5)
UP = (1, 2, 2)
PLAIN = (0, 1, 2)
FIVE_UP = (1, 2, 3, 4, 4)
# A begin of 1 at place 0, on to place 1, one higher to place 2, and from there back.
RING = (3, ((0, 1, PLAIN), (1, 2, UP), (2, 0, PLAIN)), ((0, 1),))


def no_steps_of(chart):
    """Tuples of a text and a whole number that are no steps of the chart."""
    begins, ways = len(chart[2]), len(chart[1])
    return [
        ("begin", -1), ("begin", begins), ("begin", begins + 1), ("begin", 10 ** 30), ("begin", -begins - 1),
        ("way", -1), ("way", ways), ("way", ways + 1), ("way", -10 ** 30), ("way", -ways - 1),
        ("place", 0), ("", 0), ("Begin", 0), ("WAY", 0), ("ways", 0), ("begins", 0), ("begin ", 0), (" way", 0),
        ("b", 0),
    ]


def gone_told(ladder, chart, steps):
    worths = lowest_told(ladder, chart)
    for step in steps:
        worths = behind(ladder, chart, worths, step)
    return worths


def round_and_round(ladder, chart, order):
    """What least_by tells, one round behind the other, as the document words it."""
    worths, many = lowest_told(ladder, chart), 0
    while True:
        raised = 0
        for step in order:
            new = behind(ladder, chart, worths, step)
            raised += new != worths
            worths = new
        if not raised:
            return worths, many
        many += raised


def orders_of(chart):
    """Orders in which each step stands at least once."""
    steps = steps_of(chart)
    yield steps
    yield steps[::-1]
    yield steps[1:] + steps[:1]
    yield steps[::2] + steps[1::2] + steps
    yield [step for step in steps for _ in range(3)]


class LeastTest(unittest.TestCase):
    """4.1 and 0.2 (c)"""

    def test_lowest(self):
        for ladder in LADDERS + BEYOND:
            bottom = ladder.index(tuple(range(len(ladder))))
            for places in range(1, 10):
                chart = (places, ((0, 0, (len(ladder) - 1,) * len(ladder)),), ((0, len(ladder) - 1),))
                self.assertTrue(same(lowest(ladder, chart), (bottom,) * places))

    def test_lowest_where_the_least_worth_is_not_0(self):
        self.assertTrue(same(lowest(DOWNWARD_CHAIN, (2, (), ())), (3, 3)))
        self.assertTrue(same(lowest(ODD_DIAMOND, (3, (), ((0, 1),))), (2, 2, 2)))

    def test_least_among_all_answers(self):
        for ladder, chart in small_charts(turns=12):
            self.assertTrue(same(least(ladder, chart), least_found(ladder, chart)), (ladder, chart))

    def test_no_answer_is_anywhere_less(self):
        for ladder, chart in small_charts(turns=2):
            told = least(ladder, chart)
            for worths in all_worths(ladder, chart):
                if is_answer_told(ladder, chart, worths):
                    self.assertTrue(are_leq(ladder, told, worths))

    def test_greater_charts(self):
        for ladder, chart in great_charts():
            self.assertTrue(same(least(ladder, chart), least_risen(ladder, chart)))

    def test_by_hand(self):
        self.assertTrue(same(least(THREE, (1, (), ())), (0,)))
        self.assertTrue(same(least(THREE, (2, (), ((1, 1), (1, 2), (1, 0)))), (0, 2)))
        self.assertTrue(same(least(THREE, RING), (2, 2, 2)))
        self.assertTrue(same(least(FIVE, (1, ((0, 0, FIVE_UP),), ())), (4,)))
        self.assertTrue(same(least(FIVE, (2, ((0, 1, (2, 2, 2, 4, 4)),), ((0, 2),))), (2, 2)))
        self.assertTrue(same(least(DIAMOND, (1, (), ((0, 1), (0, 2)))), (3,)))
        self.assertTrue(same(least(ONE, (2, ((0, 1, (0,)), (1, 1, (0,))), ((0, 0),))), (0, 0)))
        self.assertTrue(same(least(DOWNWARD_CHAIN, (2, ((0, 1, (0, 0, 1, 2)),), ((0, 2),))), (2, 1)))

    def test_a_long_way_round(self):
        ring = tuple((x, (x + 1) % 8, tuple(min(y + 1, 15) for y in range(16))) for x in range(8))
        self.assertTrue(same(least(chain(16), (8, ring, ())), (15,) * 8))
        self.assertTrue(same(least(chain(16), (8, ring[:7], ())), tuple(range(8))))
        self.assertTrue(same(least(chain(16), (8, ring[6::-1], ((0, 3),))), tuple(range(3, 11))))

    def test_the_joined_worth_is_led_on(self):
        both = (0, 0, 0, 3)
        chart = (2, ((0, 1, both),), ((0, 1), (0, 2)))
        self.assertTrue(same(least(DIAMOND, chart), (3, 3)))
        self.assertTrue(same(least(DIAMOND, (2, ((0, 1, both),), ((0, 1),))), (1, 0)))


class GoneTest(unittest.TestCase):
    """4.2"""

    def test_no_steps(self):
        for ladder, chart in small_charts(turns=1):
            self.assertTrue(same(gone(ladder, chart, []), lowest_told(ladder, chart)))

    def test_steps_one_behind_the_other(self):
        for ladder, chart in small_charts():
            for order in orders_of(chart):
                for steps in (order, order[:1], order[:2], order[1:], order + order):
                    self.assertTrue(same(gone(ladder, chart, steps), gone_told(ladder, chart, steps)))

    def test_by_hand(self):
        begin, on, up, back = ("begin", 0), ("way", 0), ("way", 1), ("way", 2)
        self.assertTrue(same(gone(THREE, RING, [begin]), (1, 0, 0)))
        self.assertTrue(same(gone(THREE, RING, [begin, begin]), (1, 0, 0)))
        self.assertTrue(same(gone(THREE, RING, [on, begin]), (1, 0, 0)))
        self.assertTrue(same(gone(THREE, RING, [begin, on]), (1, 1, 0)))
        self.assertTrue(same(gone(THREE, RING, [up, begin, on]), (1, 1, 1)))
        self.assertTrue(same(gone(THREE, RING, [begin, on, up, back]), (2, 1, 2)))
        self.assertTrue(same(gone(THREE, RING, [up, back]), (1, 0, 1)))
        self.assertTrue(same(gone(FIVE, (1, ((0, 0, FIVE_UP),), ()), [("way", 0)] * 3), (3,)))

    def test_a_step_joins(self):
        chart = (2, ((0, 1, (0, 1, 1, 1)),), ((0, 1), (1, 2), (1, 0)))
        self.assertTrue(same(gone(DIAMOND, chart, [("begin", 1), ("begin", 0), ("way", 0)]), (1, 3)))
        self.assertTrue(same(gone(DIAMOND, chart, [("begin", 1), ("begin", 2), ("way", 0)]), (0, 2)))

    def test_no_step(self):
        for ladder, chart in itertools.chain(small_charts(turns=1), [(THREE, RING)]):
            for step in no_steps_of(chart):
                with self.subTest(chart=chart, step=step):
                    for steps in ([step], steps_of(chart) + [step], [step] + steps_of(chart) * 2):
                        before = copied(steps)
                        self.assertRaises(NoStep, gone, ladder, chart, steps)
                        self.assertTrue(same(steps, before))

    def test_what_is_handed_in_stays(self):
        steps = [("begin", 0), ("way", 0), ("way", 1)]
        before = copied(steps)
        gone(THREE, RING, steps)
        least_by(THREE, RING, steps)
        is_paper(THREE, RING, (1, 1, 2), steps)
        self.assertTrue(same(steps, before))


class LeastByTest(unittest.TestCase):
    """4.2 and 0.2 (c)"""

    def test_whatever_order(self):
        for ladder, chart in small_charts():
            wanted = least_found(ladder, chart)
            for order in orders_of(chart):
                told = least_by(ladder, chart, order)
                self.assertTrue(same(told[0], wanted))
                self.assertTrue(same(told, round_and_round(ladder, chart, order)))

    def test_all_orders(self):
        for order in itertools.permutations(steps_of(RING)):
            self.assertTrue(same(least_by(THREE, RING, list(order)), round_and_round(THREE, RING, order)))
            self.assertEqual(least_by(THREE, RING, list(order))[0], (2, 2, 2))

    def test_steps_left_out(self):
        for ladder, chart in small_charts():
            steps = steps_of(chart)
            for order in (steps[1:], steps[:-1], steps[::2], steps[::-3], steps[1:] + steps[1:]):
                told = least_by(ladder, chart, order)
                begins = tuple(begin for x, begin in enumerate(chart[2]) if ("begin", x) in order)
                ways = tuple(way for x, way in enumerate(chart[1]) if ("way", x) in order)
                self.assertTrue(same(told, round_and_round(ladder, chart, order)))
                self.assertEqual(told[0], least_found(ladder, (chart[0], ways, begins)))

    def test_no_steps(self):
        self.assertTrue(same(least_by(THREE, RING, []), ((0, 0, 0), 0)))
        self.assertTrue(same(least_by(DOWNWARD_CHAIN, (2, (), ((0, 0),)), []), ((3, 3), 0)))

    def test_many_raised_by_hand(self):
        loop = (1, ((0, 0, FIVE_UP),), ())
        self.assertTrue(same(least_by(FIVE, loop, [("way", 0)]), ((4,), 4)))
        self.assertTrue(same(least_by(FIVE, loop, [("way", 0)] * 3), ((4,), 4)))
        begins = (1, (), ((0, 1), (0, 3), (0, 2)))
        self.assertTrue(same(least_by(FIVE, begins, [("begin", 0), ("begin", 2), ("begin", 1)]), ((3,), 3)))
        self.assertTrue(same(least_by(FIVE, begins, [("begin", 0), ("begin", 1), ("begin", 2)]), ((3,), 2)))
        self.assertTrue(same(least_by(FIVE, begins, [("begin", 1), ("begin", 0), ("begin", 2)]), ((3,), 1)))
        self.assertTrue(same(least_by(FIVE, begins, [("begin", 0), ("begin", 2)]), ((2,), 2)))
        self.assertTrue(same(least_by(THREE, RING, [("way", 1)]), ((0, 0, 1), 1)))

    def test_greater_charts(self):
        for ladder, chart in great_charts(turns=1):
            for order in orders_of(chart):
                self.assertTrue(same(least_by(ladder, chart, order), round_and_round(ladder, chart, order)))

    def test_no_step(self):
        for ladder, chart in itertools.chain(small_charts(turns=1), [(THREE, RING)]):
            for step in no_steps_of(chart):
                with self.subTest(chart=chart, step=step):
                    for order in ([step], steps_of(chart) + [step], [step] + steps_of(chart) * 2):
                        before = copied(order)
                        self.assertRaises(NoStep, least_by, ladder, chart, order)
                        self.assertTrue(same(order, before))


class PaperTest(unittest.TestCase):
    """4.3 and 0.2 (c)"""

    def check(self, ladder, chart, answer, steps):
        wanted = is_answer_told(ladder, chart, answer) and gone_told(ladder, chart, steps) == answer
        self.assertIs(is_paper(ladder, chart, answer, steps), wanted, (ladder, chart, answer, steps))

    def test_all_short_lists(self):
        charts = [
            (THREE, (2, ((0, 1, UP), (1, 0, PLAIN)), ((0, 1),))),
            (DIAMOND, (2, ((0, 1, (0, 0, 0, 3)),), ((0, 1), (0, 2)))),
            (THREE, (1, ((0, 0, UP),), ())),
            (DOWNWARD_CHAIN, (1, ((0, 0, (0, 0, 1, 3)),), ((0, 2),))),
        ]
        for ladder, chart in charts:
            for many in range(5):
                for steps in itertools.product(steps_of(chart), repeat=many):
                    for answer in all_worths(ladder, chart):
                        self.check(ladder, chart, answer, list(steps))

    def test_a_paper_shows_the_least_answer(self):
        for ladder, chart in small_charts():
            paper = paper_for(ladder, chart)
            wanted = least_found(ladder, chart)
            self.assertIs(is_paper(ladder, chart, wanted, paper), True)
            for answer in all_worths(ladder, chart):
                if answer != wanted:
                    self.assertIs(is_paper(ladder, chart, answer, paper), False)

    def test_each_step_of_paper_for_raises(self):
        for ladder, chart in itertools.chain(small_charts(), great_charts()):
            paper = paper_for(ladder, chart)
            self.assertIsInstance(paper, list)
            worths = lowest_told(ladder, chart)
            for step in paper:
                new = behind(ladder, chart, worths, step)
                self.assertNotEqual(new, worths)
                worths = new
            self.assertEqual(worths, least_risen(ladder, chart))
            self.assertIs(is_paper(ladder, chart, worths, paper), True)

    def test_changed_papers(self):
        for ladder, chart in small_charts(turns=3):
            paper = paper_for(ladder, chart)
            answer = least_found(ladder, chart)
            for x in range(len(paper)):
                self.check(ladder, chart, answer, paper[:x] + paper[x + 1:])
                self.check(ladder, chart, answer, paper[:x] + paper[x + 1:] + [paper[x]])
                self.assertIs(is_paper(ladder, chart, answer, paper[:x] + [paper[x]] + paper[x:]), True)
                self.assertIs(is_paper(ladder, chart, answer, paper + [paper[x]]), True)
            for step in steps_of(chart):
                for x in range(len(paper) + 1):
                    self.assertIs(is_paper(ladder, chart, answer, paper[:x] + [step] + paper[x:]), True)

    def test_changed_papers_by_hand(self):
        begin, on, up, back = ("begin", 0), ("way", 0), ("way", 1), ("way", 2)
        paper = [begin, on, up, back, on]
        self.assertIs(is_paper(THREE, RING, (2, 2, 2), paper), True)
        self.assertIs(is_paper(THREE, RING, (2, 2, 2), paper[:-1]), False)
        self.assertIs(is_paper(THREE, RING, (2, 2, 2), [begin, up, on, back, on]), False)
        self.assertIs(is_paper(THREE, RING, (2, 2, 2), [on, begin, on, up, back, on, begin]), True)
        self.assertIs(is_paper(THREE, RING, (2, 2, 2), [up, back, on, up, back, on]), True)
        self.assertIs(is_paper(THREE, RING, (2, 2, 2), []), False)

    def test_worths_that_are_no_answer_have_no_paper(self):
        self.assertIs(is_paper(THREE, RING, (1, 1, 2), [("begin", 0), ("way", 0), ("way", 1)]), False)
        self.assertIs(is_paper(THREE, RING, (0, 0, 0), []), False)

    def test_answers_that_are_not_least_have_no_paper(self):
        chart = (1, (), ((0, 1),))
        for steps in ([], [("begin", 0)], [("begin", 0)] * 2):
            self.assertIs(is_paper(THREE, chart, (2,), steps), False)

    def test_a_paper_of_no_steps(self):
        chart = (2, ((0, 1, PLAIN),), ((1, 0),))
        self.assertIs(is_paper(THREE, chart, (0, 0), []), True)
        self.assertIs(is_paper(THREE, chart, (0, 1), []), False)
        self.assertEqual(paper_for(THREE, chart), [])

    def test_any_tuple_of_whole_numbers_as_answer(self):
        paper = paper_for(THREE, RING)
        wrong = [
            (), (2,), (2, 2), (2, 2, 2, 2), (2, 2, 3), (3, 3, 3), (-1, 2, 2), (2, 2, -1), (-1, -1, -1),
            (2, 2, 10 ** 30),
        ]
        for answer in wrong:
            with self.subTest(answer=answer):
                self.assertIs(is_paper(THREE, RING, answer, paper), False)
                self.assertIs(is_paper(THREE, RING, answer, []), False)
                self.assertIs(is_paper(THREE, RING, answer, None), False)
        self.assertIs(is_paper(THREE, (1, (), ()), (), []), False)

    def test_any_things(self):
        things = [thing for thing in any_things() if thing != []]
        things += [(), (("begin", 0),), "begin", ("begin", 0), ("way", 0), tuple(paper_for(THREE, RING)), {}]
        for ladder, chart in itertools.chain(small_charts(turns=1), [(THREE, RING)]):
            answer = least_found(ladder, chart)
            for thing in things:
                before = copied(thing)
                self.assertIs(is_paper(ladder, chart, answer, thing), False, (chart, thing))
                self.assertTrue(same(thing, before))

    def test_lists_with_something_else_in_them(self):
        others = any_things() + no_steps_of(RING) + [
            ["begin", 0], ["way", 0], ("begin", False), ("way", True), ("way", False), ("begin", None), ("begin", "0"),
            ("begin",), ("begin", 0, 0), ("way", 0, None), (0, "begin"), (0, 0), (None, 0), (True, 0), ("begin", (0,)),
            ("begin", [0]), (("begin",), 0), (["begin"], 0), ("begin", 0, "way", 0), ("way0",), "way0", "begin", (),
            (("begin", 0),), [("begin", 0)],
        ]
        paper = paper_for(THREE, RING)
        for other in others:
            for thing in ([other], paper + [other], [other] + paper, paper[:2] + [other] + paper[2:]):
                with self.subTest(other=other):
                    before = copied(thing)
                    self.assertIs(is_paper(THREE, RING, (2, 2, 2), thing), False)
                    self.assertTrue(same(thing, before))

    def test_steps_of_other_kinds_that_would_not_matter(self):
        chart = (1, ((0, 0, PLAIN),), ((0, 0),))
        for step in (["way", 0], ("way", False), ("begin", False), ("way", -1), ("way", 1), ("begin", 1), ("place", 0)):
            self.assertIs(is_paper(THREE, chart, (0,), [step]), False)
        self.assertIs(is_paper(THREE, chart, (0,), [("way", 0), ("begin", 0)]), True)

    def test_told_papers_are_new_ones(self):
        for chart in (RING, (1, (), ())):
            first = paper_for(THREE, chart)
            kept = copied(first)
            first.append(("way", 99))
            self.assertEqual(paper_for(THREE, chart), kept)
            self.assertTrue(same(least(THREE, RING), (2, 2, 2)))


class MissingTest(unittest.TestCase):
    """4.4"""

    def test_all_worths_of_small_charts(self):
        for ladder, chart in small_charts(turns=3):
            for worths in all_worths(ladder, chart):
                raising = [step for step in steps_of(chart) if behind(ladder, chart, worths, step) != worths]
                told = missing(ladder, chart, worths)
                self.assertTrue(same(told, raising[0] if raising else None))
                self.assertEqual(told is None, is_answer_told(ladder, chart, worths))

    def test_by_hand(self):
        chart = (2, ((0, 1, PLAIN), (0, 1, UP)), ((1, 0), (0, 2), (1, 1)))
        self.assertTrue(same(missing(THREE, chart, (0, 0)), ("begin", 1)))
        self.assertTrue(same(missing(THREE, chart, (2, 0)), ("begin", 2)))
        self.assertTrue(same(missing(THREE, chart, (2, 1)), ("way", 0)))
        self.assertIsNone(missing(THREE, chart, (2, 2)))
        self.assertTrue(same(missing(THREE, chart[:2] + ((),), (0, 0)), ("way", 1)))
        self.assertTrue(same(missing(DIAMOND, (1, (), ((0, 1),)), (2,)), ("begin", 0)))

    def test_nothing_is_missing(self):
        self.assertIsNone(missing(THREE, (1, (), ()), (0,)))
        for ladder, chart in small_charts(turns=2):
            self.assertIsNone(missing(ladder, chart, least(ladder, chart)))

    def test_is_least_at(self):
        for ladder, chart in small_charts(turns=2):
            wanted = least_found(ladder, chart)
            for place, worth in itertools.product(range(chart[0]), range(len(ladder))):
                self.assertIs(is_least_at(ladder, chart, place, worth), leq(ladder, wanted[place], worth))

    def test_is_least_at_by_hand(self):
        chart = (2, ((0, 1, UP),), ((0, 1),))
        self.assertEqual([is_least_at(THREE, chart, 0, x) for x in range(3)], [False, True, True])
        self.assertEqual([is_least_at(THREE, chart, 1, x) for x in range(3)], [False, False, True])
        self.assertEqual([is_least_at(DIAMOND, (1, (), ((0, 1),)), 0, x) for x in range(4)], [False, True, False, True])
