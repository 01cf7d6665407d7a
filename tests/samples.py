"""Ladders and things for the tests, made without the program's own functions."""

import copy
import functools
import itertools


def table_of(many, join):
    return tuple(tuple(join(x, y) for y in range(many)) for x in range(many))


def leq(ladder, x, y):
    return ladder[x][y] == y


def from_order(many, is_leq):
    """The joins of an order, None where two have none."""
    def join(x, y):
        above = [z for z in range(many) if is_leq(x, z) and is_leq(y, z)]
        return next((z for z in above if all(is_leq(z, other) for other in above)), None)
    return table_of(many, join)


def from_covers(many, covers):
    """The ladder whose order is what goes up by these couples of lesser and greater."""
    upward = {(x, x) for x in range(many)} | set(covers)
    for middle, x, y in itertools.product(range(many), repeat=3):
        if (x, middle) in upward and (middle, y) in upward:
            upward.add((x, y))
    return from_order(many, lambda x, y: (x, y) in upward)


def renumbered(ladder, names):
    """The same ladder, the worth x of which is now called names[x]."""
    old = {name: x for x, name in enumerate(names)}
    return table_of(len(ladder), lambda x, y: names[ladder[old[x]][old[y]]])


def chain(many):
    return table_of(many, max)


def couples(one, other):
    wide = len(other)
    return table_of(
        len(one) * wide, lambda x, y: one[x // wide][y // wide] * wide + other[x % wide][y % wide]
    )


def subsets(many):
    return table_of(2 ** many, lambda x, y: x | y)


def divisors(number):
    parts = [d for d in range(1, number + 1) if number % d == 0]
    return from_order(len(parts), lambda x, y: parts[y] % parts[x] == 0)


ONE = ((0,),)
DOWNWARD_CHAIN = table_of(4, min)
DIAMOND = ((0, 1, 2, 3), (1, 1, 3, 3), (2, 3, 2, 3), (3, 3, 3, 3))
THREE_ABREAST = from_covers(5, [(0, 1), (0, 2), (0, 3), (1, 4), (2, 4), (3, 4)])
PENTAGON = from_covers(5, [(0, 1), (1, 2), (2, 4), (0, 3), (3, 4)])
ODD_DIAMOND = renumbered(DIAMOND, (2, 0, 3, 1))
ODD_PENTAGON = renumbered(PENTAGON, (3, 1, 4, 0, 2))
ODD_CUBE = renumbered(subsets(3), (5, 2, 7, 0, 6, 1, 3, 4))
ODD_DIVISORS = renumbered(divisors(12), (4, 2, 5, 0, 3, 1))
FOURTEEN_ABREAST = from_covers(16, [(0, x) for x in range(1, 15)] + [(x, 15) for x in range(1, 15)])

PARTING = [
    ONE, chain(2), chain(3), chain(5), chain(16), DOWNWARD_CHAIN, DIAMOND, ODD_DIAMOND,
    subsets(3), subsets(4), ODD_CUBE, divisors(12), ODD_DIVISORS,
]
NOT_PARTING = [THREE_ABREAST, PENTAGON, ODD_PENTAGON, FOURTEEN_ABREAST]
LADDERS = PARTING + NOT_PARTING
# The document lets bounds be overstepped somewhat where it tells no refusal.
BEYOND = [chain(17), from_order(18, lambda x, y: (y + 1) % (x + 1) == 0 or y == 17)]

# Ladders of which charts of three places have so few worths of places that all can be gone through.
FEW_WORTHS = [
    ONE, chain(2), chain(3), DOWNWARD_CHAIN, DIAMOND, ODD_DIAMOND, THREE_ABREAST, ODD_PENTAGON,
    couples(chain(2), chain(3)),
]
MANY_WORTHS = [chain(16), subsets(4), ODD_CUBE, FOURTEEN_ABREAST, couples(DIAMOND, chain(3))] + BEYOND

# Many places, the starts and goals of ways, the places of begins.
SHAPES = [
    (1, [], []),
    (1, [], [0, 0]),
    (1, [(0, 0)], []),
    (1, [(0, 0), (0, 0)], [0]),
    (2, [], [1]),
    (2, [(0, 1)], [0]),
    (2, [(0, 1), (0, 1), (1, 1)], [0, 0, 1]),
    (2, [(1, 0), (0, 1)], [1]),
    (3, [(0, 1), (1, 2), (2, 0)], [0]),
    (3, [(2, 1), (1, 0), (2, 2)], [2, 1, 2]),
    (3, [(0, 2), (1, 2), (0, 2), (2, 1)], [0, 1]),
    (3, [(0, 0), (0, 1), (1, 1), (1, 0), (2, 0)], []),
]
GREAT_SHAPES = [
    (8, [(x, (3 * x + 1) % 8) for x in range(8)], [0, 5]),
    (8, [(x * x % 8, (x + 5 * (x // 8)) % 8) for x in range(60)], [x % 8 for x in range(60)]),
    (9, [(8 - x % 9, x * x * x % 9) for x in range(61)], [x * x % 9 for x in range(61)]),
]


def tables_either_way(many):
    """All tables in which joins with itself stay, and joins are the same either way."""
    couples = [(x, y) for x in range(many) for y in range(x)]
    for joins in itertools.product(range(many), repeat=len(couples)):
        known = dict(zip(couples, joins))
        yield table_of(many, lambda x, y: x if x == y else known[max(x, y), min(x, y)])


def all_orders(many):
    """All ladders of so many worths, found by their orders."""
    couples = [(x, y) for x in range(many) for y in range(many) if x != y]
    found = set()
    for chosen in itertools.product((False, True), repeat=len(couples)):
        upward = {(x, x) for x in range(many)} | {c for c, is_in in zip(couples, chosen) if is_in}
        if is_order(many, upward):
            found.add(from_order(many, lambda x, y: (x, y) in upward))
    joined = [table for table in found if not any(None in row for row in table)]
    return [table for table in joined if tuple(range(many)) in table]


def is_order(many, upward):
    for x, y in upward:
        if x != y and (y, x) in upward:
            return False
        if any((y, z) in upward and (x, z) not in upward for z in range(many)):
            return False
    return True


def all_rules(ladder):
    return itertools.product(range(len(ladder)), repeat=len(ladder))


def is_rising(ladder, rule):
    couples = itertools.product(range(len(ladder)), repeat=2)
    return all(leq(ladder, rule[x], rule[y]) for x, y in couples if leq(ladder, x, y))


def is_spreading(ladder, rule):
    couples = itertools.product(range(len(ladder)), repeat=2)
    return all(rule[ladder[x][y]] == ladder[rule[x]][rule[y]] for x, y in couples)


def rising_rules(ladder):
    return [rule for rule in all_rules(ladder) if is_rising(ladder, rule)]


def spreading_rules(ladder):
    return [rule for rule in all_rules(ladder) if is_spreading(ladder, rule)]


def odd_tables(ladder):
    """Some tables of worths of a ladder of any size, few of which rise."""
    many = len(ladder)
    for factor, more in itertools.product(range(5), range(3)):
        yield tuple((factor * x * x + more * x + more) % many for x in range(many))
        yield tuple((factor * x + more) // 2 % many for x in range(many))


def raised_to_rise(ladder, table):
    """The least rule that rises and is nowhere lower than the table."""
    below = [[y for y in range(len(ladder)) if leq(ladder, y, x)] for x in range(len(ladder))]
    return tuple(joined_told(ladder, [table[y] for y in part]) for part in below)


@functools.cache
def rules_of(ladder):
    """Rules that rise, all of them of up to five worths; those of a greater ladder are some."""
    if len(ladder) <= 5:
        return rising_rules(ladder)
    steady = [(worth,) * len(ladder) for worth in range(len(ladder))]
    return sorted({*ladder, *steady, *[raised_to_rise(ladder, table) for table in odd_tables(ladder)]})


@functools.cache
def spreading_of(ladder):
    return [rule for rule in rules_of(ladder) if is_spreading(ladder, rule)]


def charts_over(ladder, rules, shapes, turns):
    """Charts of all these shapes, so many of each, with rules and worths as their turn comes."""
    for turn, (places, between, begun) in itertools.product(range(turns), shapes):
        def choose(number, those):
            return those[(7919 * turn + 104729 * number + 31 * places + len(between)) % len(those)]
        ways = tuple((start, goal, choose(number, rules)) for number, (start, goal) in enumerate(between))
        begins = tuple((place, choose(number, range(len(ladder)))) for number, place in enumerate(begun))
        yield (places, ways, begins)


def small_charts(turns=6):
    """Couples of a ladder and a chart, with rules that rise, small enough for a search."""
    for ladder in FEW_WORTHS:
        for chart in charts_over(ladder, rules_of(ladder), SHAPES, turns):
            yield ladder, chart


def spreading_charts(turns=6):
    for ladder in FEW_WORTHS:
        for chart in charts_over(ladder, spreading_of(ladder), SHAPES, turns):
            yield ladder, chart


def great_charts(turns=2):
    for ladder in MANY_WORTHS:
        for chart in charts_over(ladder, rules_of(ladder), SHAPES + GREAT_SHAPES, turns):
            yield ladder, chart


def great_spreading_charts(turns=2):
    for ladder in MANY_WORTHS:
        for chart in charts_over(ladder, spreading_of(ladder), SHAPES + GREAT_SHAPES, turns):
            yield ladder, chart


def all_worths(ladder, chart):
    return itertools.product(range(len(ladder)), repeat=chart[0])


def are_leq(ladder, one, other):
    return all(leq(ladder, x, y) for x, y in zip(one, other))


def steps_of(chart):
    begins = [("begin", number) for number in range(len(chart[2]))]
    return begins + [("way", number) for number in range(len(chart[1]))]


def behind(ladder, chart, worths, step):
    """The worths behind one step."""
    name, number = step
    new = list(worths)
    if name == "begin":
        place, worth = chart[2][number]
        new[place] = ladder[new[place]][worth]
    else:
        start, goal, rule = chart[1][number]
        new[goal] = ladder[new[goal]][rule[new[start]]]
    return tuple(new)


def lowest_told(ladder, chart):
    return (ladder.index(tuple(range(len(ladder)))),) * chart[0]


def least_found(ladder, chart):
    """The least answer, by a search over all worths of places."""
    answers = [worths for worths in all_worths(ladder, chart) if is_answer_told(ladder, chart, worths)]
    return next(one for one in answers if all(are_leq(ladder, one, other) for other in answers))


def least_risen(ladder, chart):
    """The least answer, by going up while anything is short."""
    worths = lowest_told(ladder, chart)
    while not is_answer_told(ladder, chart, worths):
        for step in reversed(steps_of(chart)):
            worths = behind(ladder, chart, worths, step)
    return worths


def is_answer_told(ladder, chart, worths):
    places, ways, begins = chart
    fits = [leq(ladder, worth, worths[place]) for place, worth in begins]
    fits += [leq(ladder, rule[worths[start]], worths[goal]) for start, goal, rule in ways]
    return all(fits)


def joined_told(ladder, worths):
    return functools.reduce(lambda x, y: ladder[x][y], worths)


def least_among(ladder, worths):
    """The one of these worths that is no greater than any of them."""
    return next(x for x in worths if all(leq(ladder, x, y) for y in worths))


def nested(deep, innermost, wrap):
    thing = innermost
    for _ in range(deep):
        thing = wrap(thing)
    return thing


def any_things():
    """New things each time, none of which is a ladder, rule, chart or answer anywhere."""
    return [
        0, 1, 2, -1, 16, 10 ** 30, True, False, None, "", "0", "ladder", "\n", [], [0], [[0]], [(0,)],
        ([0],), (None,), (True,), (False,), ("0",), ("",), "(0,)", ((None,),), ((True,),), ((False,),),
        (("0",),), [1, (), ()], (1, [], []), (True, (), ()), (None, None, None), ("1", "", ""),
        nested(10, 0, lambda thing: (thing,)), nested(10, 0, lambda thing: [thing]),
        nested(10, None, lambda thing: (thing, thing)), nested(10, "x", lambda thing: [thing, (thing,)]),
        nested(11, (), lambda thing: (thing,)), (1, (((0, 0, 0),),), ()), tuple(range(300)), ((),) * 300,
    ]


def same(one, other):
    """Equal, and of like kinds all through: 1 and True, or (0,) and [0], are not the same here."""
    return repr(one) == repr(other)


def copied(thing):
    return copy.deepcopy(thing)
