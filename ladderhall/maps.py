"""Maps from ladder to ladder, and rules over couples."""

from ladderhall.errors import NoMap
from ladderhall.kinds import is_row_of
from ladderhall.ladders import joined_all, least_of
from ladderhall.rules import after, leads_joins_to_joins, led_below


def is_map(ladder, other, thing):
    if not is_row_of(thing, len(ladder), len(other)):
        return False
    return leads_joins_to_joins(ladder, other, thing) and thing[least_of(ladder)] == least_of(other)


def refuse_no_map(ladder, other, thing):
    if not is_map(ladder, other, thing):
        raise NoMap("this is no map from the one ladder to the other")


# A map leads the join of all that are led so low to no more either, so it is the greatest of them.
def back_of(ladder, other, mapping):
    refuse_no_map(ladder, other, mapping)
    return tuple([joined_all(ladder, led_below(other, mapping, worth)) for worth in range(len(other))])


def after_map(mapping, then):
    return after(mapping, then)


def mapped_rule(ladder, other, mapping, rule):
    return back_and_forth(back_of(ladder, other, mapping), rule, mapping)


def back_and_forth(back, rule, mapping):
    return after(after(back, rule), mapping)


def mapped_chart(ladder, other, mapping, chart):
    # Gone back here and not way by way, so that a chart without ways asks for a map, too.
    back = back_of(ladder, other, mapping)
    ways = [(start, goal, back_and_forth(back, rule, mapping)) for start, goal, rule in chart[1]]
    begins = [(place, mapping[worth]) for place, worth in chart[2]]
    return (chart[0], tuple(ways), tuple(begins))


def mapped_worths(mapping, worths):
    return after(worths, mapping)


def paired_rules(one, other):
    wide = len(other)
    return tuple([one[couple // wide] * wide + other[couple % wide] for couple in range(len(one) * wide)])
