"""Charts: places, ways with rules between them, and worths that begin."""

from ladderhall.errors import NoPlace
from ladderhall.kinds import is_number_of, is_row_of, is_whole
from ladderhall.ladders import is_below
from ladderhall.rules import is_no_more, is_rising_rule, joined_rules

MOST_PLACES = 8
MOST_WAYS = 60
MOST_BEGINS = 60


def is_chart(ladder, thing):
    if not isinstance(thing, tuple) or len(thing) != 3:
        return False
    if not is_many_places(thing[0]):
        return False
    return are_ways(ladder, thing[0], thing[1]) and are_begins(ladder, thing[0], thing[2])


def is_many_places(thing):
    return is_whole(thing) and 1 <= thing <= MOST_PLACES


def are_ways(ladder, places, thing):
    if not isinstance(thing, tuple) or len(thing) > MOST_WAYS:
        return False
    return all([is_way(ladder, places, way) for way in thing])


def is_way(ladder, places, thing):
    return goes_between(places, thing) and is_rising_rule(ladder, thing[2])


def goes_between(places, thing):
    if not isinstance(thing, tuple) or len(thing) != 3:
        return False
    return is_number_of(thing[0], places) and is_number_of(thing[1], places)


def are_begins(ladder, places, thing):
    if not isinstance(thing, tuple) or len(thing) > MOST_BEGINS:
        return False
    return all([is_begin(ladder, places, begin) for begin in thing])


def is_begin(ladder, places, thing):
    if not isinstance(thing, tuple) or len(thing) != 2:
        return False
    return is_number_of(thing[0], places) and is_number_of(thing[1], len(ladder))


def refuse_no_place(places, place):
    if not is_number_of(place, places):
        raise NoPlace("there is no such place")


def is_answer(ladder, chart, thing):
    if not is_row_of(thing, chart[0], len(ladder)):
        return False
    for start, goal, rule in chart[1]:
        if not is_below(ladder, rule[thing[start]], thing[goal]):
            return False
    for place, worth in chart[2]:
        if not is_below(ladder, worth, thing[place]):
            return False
    return True


def is_no_less(ladder, one, other):
    return is_no_more(ladder, other, one)


# Worths of places join place by place just as rules join worth by worth.
def joined_answers(ladder, one, other):
    return joined_rules(ladder, one, other)
