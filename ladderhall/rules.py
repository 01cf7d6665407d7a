"""Rules: what leads worths of a ladder to worths."""

from ladderhall.errors import NoRule
from ladderhall.kinds import is_row_of
from ladderhall.ladders import below, is_below, joined_all, least_of


def is_rule(ladder, thing):
    return is_row_of(thing, len(ladder), len(ladder))


def rises(ladder, rule):
    for y in range(len(ladder)):
        for x in below(ladder, y):
            if not is_below(ladder, rule[x], rule[y]):
                return False
    return True


def spreads(ladder, rule):
    return leads_joins_to_joins(ladder, ladder, rule)


def leads_joins_to_joins(ladder, other, table):
    many = len(ladder)
    for x in range(many):
        for y in range(many):
            if table[ladder[x][y]] != other[table[x]][table[y]]:
                return False
    return True


def led_below(ladder, table, worth):
    return [x for x, led in enumerate(table) if is_below(ladder, led, worth)]


def is_no_more(ladder, one, other):
    return all([is_below(ladder, x, y) for x, y in zip(one, other)])


def plain_rule(ladder):
    return tuple(range(len(ladder)))


def steady(ladder, worth):
    return tuple([worth] * len(ladder))


def after(first, then):
    return tuple([then[worth] for worth in first])


def joined_rules(ladder, one, other):
    return tuple([ladder[x][y] for x, y in zip(one, other)])


# What rises leads a worth no lower than what it leads any worth below it to.
def least_rising(ladder, rule):
    return tuple([joined_below(ladder, rule, x) for x in range(len(ladder))])


def joined_below(ladder, rule, worth):
    return joined_all(ladder, [rule[x] for x in below(ladder, worth)])


def is_rising_rule(ladder, thing):
    return is_rule(ladder, thing) and rises(ladder, thing)


def refuse_unrising(ladder, thing):
    if not is_rising_rule(ladder, thing):
        raise NoRule("this is no rule of the ladder that rises")


def fixed(ladder, rule):
    refuse_unrising(ladder, rule)
    worth = least_of(ladder)
    # From the least worth a rising rule only goes up, so this ends, and below each fixed worth.
    while rule[worth] != worth:
        worth = rule[worth]
    return worth


def again_and_again(ladder, rule):
    refuse_unrising(ladder, rule)
    return tuple([least_kept(ladder, rule, x) for x in range(len(ladder))])


def least_kept(ladder, rule, worth):
    kept = worth
    while not is_below(ladder, rule[kept], kept):
        kept = ladder[kept][rule[kept]]
    return kept
