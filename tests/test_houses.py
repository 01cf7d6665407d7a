import itertools
import unittest

from ladderhall.errors import NoHouse
from ladderhall.houses import answer_in, called_by, calls_itself, is_program, summaries, summaries_by
from tests.samples import (
    DIAMOND, DOWNWARD_CHAIN, FEW_WORTHS, LADDERS, MANY_WORTHS, ODD_DIAMOND, ODD_PENTAGON, ONE, any_things, are_leq,
    chain, copied, is_rising, least_found, least_risen, lowest_told, rules_of, same, spreading_of,
)

TWO = chain(2)
THREE = chain(3)
SIXTEEN = chain(16)
UP = (1, 2, 2)
DOWN = (0, 0, 1)
PLAIN = (0, 1, 2)

# Houses as how many places, and starts and goals with None for a way or the number of the house that is called.
PROGRAM_SHAPES = [
    [(1, [])],
    [(1, [(0, 0, None)])],
    [(1, [(0, 0, 0)])],
    [(1, [(0, 0, None), (0, 0, 0)])],
    [(2, [])],
    [(2, [(0, 1, None)])],
    [(2, [(1, 0, None), (1, 0, 0)])],
    [(2, [(0, 1, 0), (0, 1, None)])],
    [(2, [(0, 1, None), (1, 1, 0)])],
    [(3, [(0, 1, 0), (1, 2, None), (0, 2, None)])],
    [(3, [(0, 1, None), (1, 2, 0), (2, 0, 0), (0, 2, None)])],
    [(2, [(0, 1, 1)]), (2, [(0, 1, None)])],
    [(2, [(0, 1, None)]), (2, [(0, 1, 0), (1, 1, None)])],
    [(3, [(0, 1, 1), (1, 2, 1), (1, 1, None)]), (1, [(0, 0, None)])],
    [(2, [(0, 1, 1), (0, 1, None)]), (3, [(0, 1, 0), (1, 2, None), (0, 2, None)])],
    [(2, [(0, 1, 1)]), (2, [(0, 1, 0)])],
    [(2, [(0, 1, 1)]), (2, [(0, 1, 2)]), (2, [(0, 1, 0), (0, 1, None)])],
    [(2, [(0, 1, 2), (0, 1, None)]), (1, [(0, 0, 1), (0, 0, None)]), (3, [(0, 1, 1), (1, 2, 0), (0, 2, None)])],
    [(2, [(0, 1, x), (0, 1, None)]) for x in (1, 2, 3, 0)],
    [(1, []), (2, [(0, 1, None)]), (2, [(0, 1, 3)]), (3, [(0, 1, 1), (1, 2, 0)])],
]
GREAT_SHAPES = [
    [(8, [(x * x % 8, (x + 3 * (x // 8)) % 8, None if x % 3 else (x + y) % 4) for x in range(60)]) for y in range(4)],
    [(9, [(8 - x % 9, x * x * x % 9, None if x % 4 else (x + y) % 5) for x in range(61)]) for y in range(5)],
]


def programs_over(ladder, rules, shapes, turns):
    """Programs of all these shapes, so many of each, with rules as their turn comes."""
    for turn, shape in itertools.product(range(turns), shapes):
        rule = itertools.cycle(rules[(7919 * turn + 31 * len(shape)) % len(rules):] + rules[::-1])
        yield tuple(
            (places, tuple((start, goal, next(rule) if called is None else called) for start, goal, called in between))
            for places, between in shape
        )


def small_programs(turns=4):
    for ladder in FEW_WORTHS:
        yield from ((ladder, program) for program in programs_over(ladder, rules_of(ladder), PROGRAM_SHAPES, turns))
        yield from ((ladder, program) for program in programs_over(ladder, spreading_of(ladder), PROGRAM_SHAPES, 1))


def great_programs():
    for ladder in MANY_WORTHS:
        for program in programs_over(ladder, rules_of(ladder), PROGRAM_SHAPES[5:] + GREAT_SHAPES, 1):
            yield ladder, program


def with_calls_put_in(house, rules, worth):
    """The chart of a house that is called with a worth, its calls being ways with these rules."""
    places, ways = house
    put_in = tuple((start, goal, led if isinstance(led, tuple) else rules[led]) for start, goal, led in ways)
    return (places, put_in, ((0, worth),))


def once_more(ladder, program, rules, least_told=least_risen):
    return tuple(
        tuple(least_told(ladder, with_calls_put_in(house, rules, worth))[house[0] - 1] for worth in range(len(ladder)))
        for house in program
    )


def rounds_told(ladder, program, many):
    """What the houses come to behind so many rounds from the least rules on."""
    rules = (lowest_told(ladder, (len(ladder),)),) * len(program)
    for _ in range(many):
        rules = once_more(ladder, program, rules)
    return rules


def raised_told(ladder, program):
    """What they come to when no round raises anything any more."""
    rules = rounds_told(ladder, program, 0)
    while once_more(ladder, program, rules) != rules:
        rules = once_more(ladder, program, rules)
    return rules


def with_copies(ladder, program, number, worth, deep):
    """A chart in which copies of houses are put in for calls, so many within one another, and its last place."""
    plain = tuple(range(len(ladder)))
    ways, many = [], 0

    def put_in(called, left):
        nonlocal many
        places, between = program[called]
        first, many = many, many + places
        for start, goal, led in between:
            if isinstance(led, tuple):
                ways.append((first + start, first + goal, led))
            elif left:
                inner, last = put_in(led, left - 1)
                ways.extend([(first + start, inner, plain), (last, first + goal, plain)])
        return first, first + places - 1

    last = put_in(number, deep)[1]
    return (many, tuple(ways), ((0, worth),)), last


def called_told(program, number):
    """All houses that are called, by squaring the table of calls."""
    houses = range(len(program))
    table = {(x, led) for x in houses for start, goal, led in program[x][1] if not isinstance(led, tuple)}
    for middle, x, y in itertools.product(houses, repeat=3):
        if (x, middle) in table and (middle, y) in table:
            table.add((x, y))
    return sorted(called for caller, called in table if caller == number)


class IsProgramTest(unittest.TestCase):
    """9.1"""

    def assert_program(self, thing, ladder=THREE):
        self.assertIs(is_program(ladder, thing), True)

    def assert_no_program(self, thing, ladder=THREE):
        before = copied(thing)
        self.assertIs(is_program(ladder, thing), False)
        self.assertTrue(same(thing, before))

    def test_programs(self):
        for ladder, program in itertools.chain(small_programs(turns=1), great_programs()):
            if len(ladder) <= 16 and len(program) <= 4:
                self.assert_program(program, ladder)

    def test_many_houses(self):
        for many in (1, 2, 3, 4):
            self.assert_program(((1, ()),) * many)
        for many in (0, 5, 6):
            self.assert_no_program(((1, ()),) * many)

    def test_many_places(self):
        for places in (1, 2, 7, 8):
            self.assert_program(((places, ()),))
        for places in (0, -1, 9, 10 ** 30, True, False, None, "1", (1,), [1], ()):
            with self.subTest(places=places):
                self.assert_no_program(((places, ()),))
                self.assert_no_program(((1, ()), (places, ())))

    def test_many_ways(self):
        way, call = (0, 1, UP), (1, 0, 0)
        for ways in ((way,) * 60, (call,) * 60, (way,) * 30 + (call,) * 30, (way,), (call,), ()):
            self.assert_program(((2, ways),))
        for ways in ((way,) * 61, (call,) * 61, (way,) * 31 + (call,) * 30, (way,) * 60 + (call,)):
            self.assert_no_program(((2, ways),))
            self.assert_no_program(((2, ()), (2, ways)))

    def test_calls(self):
        for number in (0, 1, 2):
            self.assert_program(((2, ((0, 1, number), (1, 1, number))), (1, ((0, 0, number),)), (1, ())))
        for number in (3, 4, -1, -3, 10 ** 30, True, False, None, "0", (), (0,), [0], [PLAIN], (None,)):
            with self.subTest(number=number):
                self.assert_no_program(((2, ((0, 1, number),)), (1, ()), (1, ())))
                self.assert_no_program(((2, ()), (1, ()), (1, ((0, 0, 0), (0, 0, number)))))

    def test_places_of_calls_and_ways(self):
        for led in (0, UP):
            self.assert_program(((3, ((0, 2, led), (2, 0, led), (2, 2, led))),))
            for start, goal in itertools.product((0, 1, 3, 4, -1, True, False, None, "0", (0,), [0]), repeat=2):
                if repr(start) not in "01" or repr(goal) not in "01":
                    with self.subTest(start=start, goal=goal):
                        self.assert_no_program(((3, ((start, goal, led),)), (8, ())))

    def test_places_are_those_of_the_house(self):
        self.assert_program(((1, ()), (3, ((2, 1, 0),))))
        self.assert_no_program(((3, ()), (1, ((2, 1, 0),))))
        self.assert_no_program(((3, ()), (1, ((0, 1, UP),))))

    def test_rules(self):
        wrong = [
            (0, 1), (0, 1, 2, 2), (0, 1, 3), (-1, 0, 0), (0, True, 2), (0, None, 2), ("0", "1", "2"), [0, 1, 2],
            (1, 0, 2), (2, 1, 0), (0, 2, 1), "012", ((0,), (1,), (2,)),
        ]
        for rule in wrong + [thing for thing in any_things() if not same(thing, 0) and not same(thing, 1)]:
            with self.subTest(rule=rule):
                self.assert_no_program(((2, ((0, 1, rule),)), (1, ())))
                self.assert_no_program(((2, ((0, 1, UP), (0, 1, 0), (1, 1, rule))), (1, ())))
        self.assert_program(((1, ((0, 0, (0, 2, 1, 3)),)),), DIAMOND)
        self.assert_no_program(((1, ((0, 0, (0, 2, 1, 3)),)),), chain(4))

    def test_forms_of_ways(self):
        for way in ((), (0,), (0, 1), (0, 1, UP, 0), (0, 1, 0, 0), [0, 1, 0], [0, 1, UP], None, 0, "010", ((0, 1, 0),)):
            with self.subTest(way=way):
                self.assert_no_program(((2, (way,)),))
                self.assert_no_program(((2, ((0, 1, UP), way, (0, 1, 0))),))

    def test_forms_of_houses(self):
        for house in ((), (1,), (1, (), ()), [1, ()], (1, []), (1, None), (1, "()"), 1, None, "1", ((1, ()),)):
            with self.subTest(house=house):
                self.assert_no_program((house,))
                self.assert_no_program(((1, ()), house))

    def test_lists_for_tuples(self):
        self.assert_no_program([(1, ())])
        self.assert_no_program(((2, [(0, 1, 0)]),))
        self.assert_no_program((2, ((0, 1, UP),)))

    def test_any_things(self):
        for thing in any_things():
            with self.subTest(thing=thing):
                for ladder in (ONE, THREE):
                    self.assert_no_program(thing, ladder)
                    self.assert_no_program((thing,), ladder)
                    self.assert_no_program(((1, thing),), ladder)
                    self.assert_no_program(((1, (thing,)),), ladder)
                    self.assert_no_program(((1, ()), thing), ladder)


class SummariesTest(unittest.TestCase):
    """9.2 and 0.2 (g)"""

    def test_raised_round_by_round(self):
        for ladder, program in itertools.chain(small_programs(), great_programs()):
            self.assertTrue(same(summaries(ladder, program), raised_told(ladder, program)), (ladder, program))

    def test_least_of_all_rules_that_fit(self):
        for ladder in (ONE, TWO, THREE):
            for program in programs_over(ladder, rules_of(ladder), PROGRAM_SHAPES, 5):
                if len(program) <= 2:
                    self.check_least_that_fit(ladder, program)
        for program in programs_over(DIAMOND, rules_of(DIAMOND), PROGRAM_SHAPES[:10], 4):
            self.check_least_that_fit(DIAMOND, program)

    def check_least_that_fit(self, ladder, program):
        fitting = [
            rules for rules in itertools.product(rules_of(ladder), repeat=len(program))
            if once_more(ladder, program, rules) == rules
        ]
        told = summaries(ladder, program)
        self.assertIn(told, fitting)
        for rules in fitting:
            for one, other in zip(told, rules):
                self.assertTrue(are_leq(ladder, one, other))

    def test_fit_their_calls(self):
        for ladder, program in small_programs(turns=1):
            told = summaries(ladder, program)
            self.assertTrue(same(once_more(ladder, program, told, least_found), told))
            self.assertTrue(all(is_rising(ladder, rule) for rule in told))

    def test_by_hand(self):
        self.assertTrue(same(summaries(THREE, ((1, ()),)), (PLAIN,)))
        self.assertTrue(same(summaries(THREE, ((1, ((0, 0, UP),)),)), ((2, 2, 2),)))
        self.assertTrue(same(summaries(THREE, ((1, ((0, 0, 0),)),)), (PLAIN,)))
        self.assertTrue(same(summaries(THREE, ((2, ()),)), ((0, 0, 0),)))
        self.assertTrue(same(summaries(THREE, ((2, ((0, 1, UP),)),)), (UP,)))
        self.assertTrue(same(summaries(THREE, ((2, ((0, 1, 0),)),)), ((0, 0, 0),)))
        self.assertTrue(same(summaries(THREE, ((2, ((0, 1, 0), (0, 1, DOWN))),)), (DOWN,)))
        ring = ((2, ((0, 1, 1),)), (2, ((0, 1, 2),)), (2, ((0, 1, 0), (0, 1, DOWN))))
        self.assertTrue(same(summaries(THREE, ring), (DOWN, DOWN, DOWN)))
        twice = ((3, ((0, 1, 1), (1, 2, 1))), (2, ((0, 1, DOWN),)))
        self.assertTrue(same(summaries(THREE, twice), ((0, 0, 0), DOWN)))
        self.assertTrue(same(summaries(DOWNWARD_CHAIN, ((2, ()),)), ((3, 3, 3, 3),)))
        self.assertTrue(same(summaries(ONE, ((2, ((0, 1, 0),)),)), ((0,),)))

    def test_calls_bring_what_the_least_worth_is_led_to(self):
        program = ((2, ((0, 1, 1),)), (2, ((0, 1, (1, 1, 1)),)))
        self.assertTrue(same(summaries(THREE, program), ((1, 1, 1), (1, 1, 1))))
        program = ((3, ((1, 2, 1),)), (2, ((0, 1, (1, 1, 1)),)))
        self.assertTrue(same(summaries(THREE, program), ((1, 1, 1), (1, 1, 1))))

    def test_the_joined_worth_is_called_with(self):
        both = (0, 0, 0, 3)
        program = ((3, ((0, 1, (0, 1, 1, 1)), (0, 1, (0, 2, 2, 2)), (1, 2, 1))), (2, ((0, 1, both),)))
        self.assertTrue(same(summaries(DIAMOND, program), ((0, 3, 3, 3), both)))

    def test_a_house_of_one_place_brings_what_it_is_called_with(self):
        for ladder in LADDERS:
            plain = tuple(range(len(ladder)))
            program = ((2, ((0, 1, 1),)), (1, ()))
            self.assertTrue(same(summaries(ladder, program), (plain, plain)))

    def test_the_last_place_is_the_house_s_own(self):
        program = ((4, ((0, 3, 1), (0, 2, UP))), (2, ((0, 1, DOWN), (1, 0, DOWN))))
        self.assertTrue(same(summaries(THREE, program), (DOWN, DOWN)))

    def test_as_many_rounds_as_it_takes(self):
        """A house in which what each worth is led to rises by ones, and only when that of the worth above is 15."""
        upward = tuple(min(x + 1, 15) for x in range(16))
        on = (0,) + upward[1:]
        first, seed = ((0,) * 15 + (1,),) * 2
        program = ((6, ((0, 1, upward), (1, 2, 0), (2, 5, seed), (0, 3, 0), (3, 5, on), (0, 5, first))),)
        self.assertTrue(same(summaries(SIXTEEN, program), ((15,) * 16,)))
        self.assertTrue(same(summaries_by(SIXTEEN, program, 10 ** 9), ((15,) * 16,)))
        self.assertTrue(same(summaries_by(SIXTEEN, program, 238), ((14,) + (15,) * 15,)))
        self.assertTrue(same(summaries_by(SIXTEEN, program, 239), ((15,) * 16,)))


class SummariesByTest(unittest.TestCase):
    """9.2 and 0.2 (g)"""

    def test_so_many_rounds(self):
        for ladder, program in itertools.chain(small_programs(turns=2), great_programs()):
            for deep in (0, 1, 2, 3):
                wanted = rounds_told(ladder, program, deep + 1)
                self.assertTrue(same(summaries_by(ladder, program, deep), wanted), (ladder, program, deep))

    def test_copies_put_in_for_calls(self):
        for ladder in (ONE, THREE, ODD_DIAMOND, ODD_PENTAGON):
            for program in programs_over(ladder, rules_of(ladder), PROGRAM_SHAPES, 2):
                for deep in (0, 1, 2, 3):
                    self.check_copies(ladder, program, deep)

    def check_copies(self, ladder, program, deep):
        told = summaries_by(ladder, program, deep)
        for number, worth in itertools.product(range(len(program)), range(len(ladder))):
            chart, last = with_copies(ladder, program, number, worth, deep)
            self.assertEqual(told[number][worth], least_risen(ladder, chart)[last], (ladder, program, deep))

    def test_deep_enough(self):
        for ladder, program in small_programs(turns=1):
            wanted = summaries(ladder, program)
            for deep in (len(program) * len(ladder) ** 2, 10 ** 6, 10 ** 30):
                self.assertTrue(same(summaries_by(ladder, program, deep), wanted))

    def test_no_less_when_deeper(self):
        for ladder, program in small_programs(turns=1):
            told = [summaries_by(ladder, program, deep) for deep in range(5)] + [summaries(ladder, program)]
            for less, more in zip(told, told[1:]):
                self.assertTrue(all(are_leq(ladder, one, other) for one, other in zip(less, more)))

    def test_by_hand(self):
        five_up, none = (1, 2, 3, 4, 4), (0, 0, 0, 0, 0)
        program = ((3, ((0, 1, 0), (1, 2, five_up), (0, 2, (0, 0, 0, 0, 1)))),)
        wanted = [(1, 1, 1, 1, 1), (2, 2, 2, 2, 2), (3, 3, 3, 3, 3), (4, 4, 4, 4, 4), (4, 4, 4, 4, 4)]
        self.assertEqual([summaries_by(chain(5), program, deep) for deep in range(5)], [(rule,) for rule in wanted])
        ring = ((2, ((0, 1, 1),)), (2, ((0, 1, 2),)), (2, ((0, 1, 0), (0, 1, five_up))))
        self.assertTrue(same(summaries_by(chain(5), ring, 0), (none, none, five_up)))
        self.assertTrue(same(summaries_by(chain(5), ring, 1), (none, five_up, five_up)))
        self.assertTrue(same(summaries_by(chain(5), ring, 2), (five_up, five_up, five_up)))

    def test_no_calls(self):
        for deep in (0, 1, 2):
            self.assertTrue(same(summaries_by(THREE, ((2, ((0, 1, UP),)),), deep), (UP,)))

    def test_the_least_worth_is_the_ladder_s(self):
        program = ((2, ((0, 1, 1),)), (1, ()))
        self.assertTrue(same(summaries_by(DOWNWARD_CHAIN, program, 0), ((3, 3, 3, 3), (0, 1, 2, 3))))
        self.assertTrue(same(summaries_by(ODD_DIAMOND, program, 0), ((2, 2, 2, 2), (0, 1, 2, 3))))


class AnswerInTest(unittest.TestCase):
    """9.3"""

    def test_calls_put_in_as_ways(self):
        for ladder, program in small_programs(turns=2):
            rules = raised_told(ladder, program)
            for number, worth in itertools.product(range(len(program)), range(len(ladder))):
                wanted = least_found(ladder, with_calls_put_in(program[number], rules, worth))
                self.assertTrue(same(answer_in(ladder, program, number, worth), wanted), (ladder, program, number))

    def test_greater_programs(self):
        for ladder, program in great_programs():
            rules = raised_told(ladder, program)
            number, worth = len(program) - 1, len(ladder) // 2
            wanted = least_risen(ladder, with_calls_put_in(program[number], rules, worth))
            self.assertTrue(same(answer_in(ladder, program, number, worth), wanted))

    def test_by_hand(self):
        program = ((3, ((0, 1, 1), (1, 2, UP))), (2, ((0, 1, DOWN),)))
        self.assertTrue(same(answer_in(THREE, program, 0, 2), (2, 1, 2)))
        self.assertTrue(same(answer_in(THREE, program, 0, 0), (0, 0, 1)))
        self.assertTrue(same(answer_in(THREE, program, 1, 2), (2, 1)))
        self.assertTrue(same(answer_in(THREE, ((1, ((0, 0, 0),)),), 0, 1), (1,)))

    def test_the_last_place_has_what_the_summary_leads_to(self):
        for ladder, program in small_programs(turns=1):
            rules = summaries(ladder, program)
            for number, worth in itertools.product(range(len(program)), range(len(ladder))):
                self.assertEqual(answer_in(ladder, program, number, worth)[-1], rules[number][worth])

    def test_no_house(self):
        for ladder, program in small_programs(turns=1):
            many = len(program)
            for number in (-1, many, many + 1, -many, 10 ** 30, -10 ** 30):
                with self.subTest(program=program, number=number):
                    before = copied(program)
                    self.assertRaises(NoHouse, answer_in, ladder, program, number, 0)
                    self.assertTrue(same(program, before))


class CalledByTest(unittest.TestCase):
    """9.4"""

    def test_called(self):
        for ladder, program in itertools.chain(small_programs(turns=1), great_programs()):
            self.check(program)

    def test_all_tables_of_calls(self):
        for chosen in itertools.product((False, True), repeat=9):
            calls = [[(0, 0, y) for y in range(3) if chosen[3 * x + y]] for x in range(3)]
            self.check(tuple((1, tuple(ways)) for ways in calls))

    def check(self, program):
        for number in range(len(program)):
            wanted = called_told(program, number)
            self.assertTrue(same(called_by(program, number), wanted), program)
            self.assertIs(calls_itself(program, number), number in wanted)

    def test_by_hand(self):
        program = ((2, ((0, 1, 3), (0, 1, 1), (0, 1, 3))), (1, ()), (1, ((0, 0, 2),)), (2, ((0, 1, 2), (1, 0, PLAIN))))
        told = [called_by(program, number) for number in range(4)]
        self.assertTrue(same(told, [[1, 2, 3], [], [2], [2]]))
        self.assertEqual([calls_itself(program, number) for number in range(4)], [False, False, True, False])
        ring = tuple((2, ((0, 1, number),)) for number in (3, 0, 1, 2))
        self.assertTrue(same([called_by(ring, number) for number in range(4)], [[0, 1, 2, 3]] * 4))
        self.assertTrue(all(calls_itself(ring, number) is True for number in range(4)))

    def test_told_lists_are_new_ones(self):
        program = ((1, ((0, 0, 1),)), (1, ()))
        for number, wanted in ((0, [1]), (1, [])):
            first = called_by(program, number)
            first.append(99)
            self.assertTrue(same(called_by(program, number), wanted))

    def test_no_house(self):
        for ladder, program in small_programs(turns=1):
            many = len(program)
            for number in (-1, many, many + 1, -many, 10 ** 30, -10 ** 30):
                with self.subTest(program=program, number=number):
                    self.assertRaises(NoHouse, called_by, program, number)
                    self.assertRaises(NoHouse, calls_itself, program, number)
