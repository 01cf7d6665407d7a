"""Ladders: worths, of which any two have a join."""

from ladderhall.errors import TooGreat
from ladderhall.kinds import is_row_of

MOST_WORTHS = 16


def is_ladder(thing):
    if not isinstance(thing, tuple) or not 1 <= len(thing) <= MOST_WORTHS:
        return False
    many = len(thing)
    if not all([is_row_of(row, many, many) for row in thing]):
        return False
    if not joins_with_itself_stay(thing) or not joins_are_either_way(thing):
        return False
    return joins_are_from_either_end(thing) and has_least(thing)


def joins_with_itself_stay(table):
    return all([table[x][x] == x for x in range(len(table))])


def joins_are_either_way(table):
    for x in range(len(table)):
        for y in range(x):
            if table[x][y] != table[y][x]:
                return False
    return True


def joins_are_from_either_end(table):
    many = len(table)
    for x in range(many):
        for y in range(many):
            for z in range(many):
                if table[table[x][y]][z] != table[x][table[y][z]]:
                    return False
    return True


# The least worth changes none, so its row is all worths by their numbers.
def row_of_least(many):
    return tuple(range(many))


def has_least(table):
    return row_of_least(len(table)) in table


def least_of(ladder):
    return ladder.index(row_of_least(len(ladder)))


def greatest_of(ladder):
    return joined_all(ladder, list(range(len(ladder))))


def is_below(ladder, one, other):
    return ladder[one][other] == other


def below(ladder, worth):
    return [x for x in range(len(ladder)) if is_below(ladder, x, worth)]


def truly_below(ladder, worth):
    return [x for x in below(ladder, worth) if x != worth]


def joined_all(ladder, worths):
    joined = least_of(ladder)
    for worth in worths:
        joined = ladder[joined][worth]
    return joined


# What is below both is closed under joins, so the join of all of it is there too.
def met(ladder, one, other):
    return joined_all(ladder, [x for x in below(ladder, one) if is_below(ladder, x, other)])


def table_of(many, entry):
    rows = []
    for x in range(many):
        rows.append(tuple([entry(x, y) for y in range(many)]))
    return tuple(rows)


def turned(ladder):
    return table_of(len(ladder), lambda x, y: met(ladder, x, y))


def height_of(ladder):
    heights = {}
    # A truly less worth has fewer worths below it, so its height is there first.
    for worth in sorted(range(len(ladder)), key=lambda x: len(below(ladder, x))):
        heights[worth] = max([heights[x] + 1 for x in truly_below(ladder, worth)], default=0)
    return heights[greatest_of(ladder)]


def corners(ladder):
    return [x for x in range(len(ladder)) if joined_all(ladder, truly_below(ladder, x)) != x]


def is_parting(ladder):
    many = len(ladder)
    meets = turned(ladder)
    for x in range(many):
        for y in range(many):
            for z in range(many):
                if meets[x][ladder[y][z]] != ladder[meets[x][y]][meets[x][z]]:
                    return False
    return True


def chain_ladder(many):
    if many < 1 or many > MOST_WORTHS:
        raise TooGreat("a chain has 1 to 16 worths")
    return table_of(many, lambda x, y: max(x, y))


def flat_ladder(many):
    top = many + 1
    if many < 0 or top + 1 > MOST_WORTHS:
        raise TooGreat("a flat ladder has 0 to 14 worths side by side")
    return table_of(top + 1, lambda x, y: flat_join(top, x, y))


def flat_join(top, one, other):
    if one == other or other == 0:
        return one
    if one == 0:
        return other
    return top


def paired(one, other):
    wide = len(other)
    if len(one) * wide > MOST_WORTHS:
        raise TooGreat("there would be more than 16 couples")
    return table_of(len(one) * wide, lambda x, y: joined_couple(one, other, x, y))


def joined_couple(one, other, x, y):
    wide = len(other)
    return one[x // wide][y // wide] * wide + other[x % wide][y % wide]
