"""Ladders and things for the tests, made without the program's own functions."""

import copy
import itertools


def table_of(many, join):
    return tuple(tuple(join(x, y) for y in range(many)) for x in range(many))


def leq(ladder, x, y):
    return ladder[x][y] == y


def from_order(many, is_leq):
    """The joins of an order, None where two have none."""
    def join(x, y):
        above = [z for z in range(many) if is_leq(x, z) and is_leq(y, z)]
        return next((z for z in above if all(is_leq(z, other) for other in above)), None)
    return table_of(many, join)


def from_covers(many, covers):
    """The ladder whose order is what goes up by these couples of lesser and greater."""
    upward = {(x, x) for x in range(many)} | set(covers)
    for middle, x, y in itertools.product(range(many), repeat=3):
        if (x, middle) in upward and (middle, y) in upward:
            upward.add((x, y))
    return from_order(many, lambda x, y: (x, y) in upward)


def renumbered(ladder, names):
    """The same ladder, the worth x of which is now called names[x]."""
    old = {name: x for x, name in enumerate(names)}
    return table_of(len(ladder), lambda x, y: names[ladder[old[x]][old[y]]])


def chain(many):
    return table_of(many, max)


def subsets(many):
    return table_of(2 ** many, lambda x, y: x | y)


def divisors(number):
    parts = [d for d in range(1, number + 1) if number % d == 0]
    return from_order(len(parts), lambda x, y: parts[y] % parts[x] == 0)


ONE = ((0,),)
DOWNWARD_CHAIN = table_of(4, min)
DIAMOND = ((0, 1, 2, 3), (1, 1, 3, 3), (2, 3, 2, 3), (3, 3, 3, 3))
THREE_ABREAST = from_covers(5, [(0, 1), (0, 2), (0, 3), (1, 4), (2, 4), (3, 4)])
PENTAGON = from_covers(5, [(0, 1), (1, 2), (2, 4), (0, 3), (3, 4)])
ODD_DIAMOND = renumbered(DIAMOND, (2, 0, 3, 1))
ODD_PENTAGON = renumbered(PENTAGON, (3, 1, 4, 0, 2))
ODD_CUBE = renumbered(subsets(3), (5, 2, 7, 0, 6, 1, 3, 4))
ODD_DIVISORS = renumbered(divisors(12), (4, 2, 5, 0, 3, 1))
FOURTEEN_ABREAST = from_covers(16, [(0, x) for x in range(1, 15)] + [(x, 15) for x in range(1, 15)])

PARTING = [
    ONE, chain(2), chain(3), chain(5), chain(16), DOWNWARD_CHAIN, DIAMOND, ODD_DIAMOND,
    subsets(3), subsets(4), ODD_CUBE, divisors(12), ODD_DIVISORS,
]
NOT_PARTING = [THREE_ABREAST, PENTAGON, ODD_PENTAGON, FOURTEEN_ABREAST]
LADDERS = PARTING + NOT_PARTING
# The document lets bounds be overstepped somewhat where it tells no refusal.
BEYOND = [chain(17), from_order(18, lambda x, y: (y + 1) % (x + 1) == 0 or y == 17)]


def tables_either_way(many):
    """All tables in which joins with itself stay, and joins are the same either way."""
    couples = [(x, y) for x in range(many) for y in range(x)]
    for joins in itertools.product(range(many), repeat=len(couples)):
        known = dict(zip(couples, joins))
        yield table_of(many, lambda x, y: x if x == y else known[max(x, y), min(x, y)])


def all_orders(many):
    """All ladders of so many worths, found by their orders."""
    couples = [(x, y) for x in range(many) for y in range(many) if x != y]
    found = set()
    for chosen in itertools.product((False, True), repeat=len(couples)):
        upward = {(x, x) for x in range(many)} | {c for c, is_in in zip(couples, chosen) if is_in}
        if is_order(many, upward):
            found.add(from_order(many, lambda x, y: (x, y) in upward))
    joined = [table for table in found if not any(None in row for row in table)]
    return [table for table in joined if tuple(range(many)) in table]


def is_order(many, upward):
    for x, y in upward:
        if x != y and (y, x) in upward:
            return False
        if any((y, z) in upward and (x, z) not in upward for z in range(many)):
            return False
    return True


def all_rules(ladder):
    return itertools.product(range(len(ladder)), repeat=len(ladder))


def least_among(ladder, worths):
    """The one of these worths that is no greater than any of them."""
    return next(x for x in worths if all(leq(ladder, x, y) for y in worths))


def nested(deep, innermost, wrap):
    thing = innermost
    for _ in range(deep):
        thing = wrap(thing)
    return thing


def any_things():
    """New things each time, none of which is a ladder, rule, chart or answer anywhere."""
    return [
        0, 1, 2, -1, 16, 10 ** 30, True, False, None, "", "0", "ladder", "\n", [], [0], [[0]], [(0,)],
        ([0],), (None,), (True,), (False,), ("0",), ("",), "(0,)", ((None,),), ((True,),), ((False,),),
        (("0",),), [1, (), ()], (1, [], []), (True, (), ()), (None, None, None), ("1", "", ""),
        nested(10, 0, lambda thing: (thing,)), nested(10, 0, lambda thing: [thing]),
        nested(10, None, lambda thing: (thing, thing)), nested(10, "x", lambda thing: [thing, (thing,)]),
        nested(11, (), lambda thing: (thing,)), (1, (((0, 0, 0),),), ()), tuple(range(300)), ((),) * 300,
    ]


def same(one, other):
    """Equal, and of like kinds all through: 1 and True, or (0,) and [0], are not the same here."""
    return repr(one) == repr(other)


def copied(thing):
    return copy.deepcopy(thing)
