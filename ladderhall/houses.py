"""Programs of houses that call one another, and what they come to."""

from ladderhall.charts import MOST_WAYS, goes_between, is_many_places, is_way
from ladderhall.errors import NoHouse
from ladderhall.kinds import is_number_of, is_whole
from ladderhall.ladders import least_of
from ladderhall.paths import all_reached, goals_of
from ladderhall.rules import steady
from ladderhall.solving import least

MOST_HOUSES = 4


def is_program(ladder, thing):
    if not isinstance(thing, tuple) or not 1 <= len(thing) <= MOST_HOUSES:
        return False
    return all([is_house(ladder, len(thing), house) for house in thing])


def is_house(ladder, houses, thing):
    if not isinstance(thing, tuple) or len(thing) != 2 or not is_many_places(thing[0]):
        return False
    if not isinstance(thing[1], tuple) or len(thing[1]) > MOST_WAYS:
        return False
    return all([is_way(ladder, thing[0], way) or is_call(houses, thing[0], way) for way in thing[1]])


def is_call(houses, places, thing):
    return goes_between(places, thing) and is_number_of(thing[2], houses)


def refuse_no_house(program, number):
    if not is_number_of(number, len(program)):
        raise NoHouse("there is no such house")


def called_chart(house, rules, worth):
    ways = [(start, goal, rules[led] if is_whole(led) else led) for start, goal, led in house[1]]
    return (house[0], tuple(ways), ((0, worth),))


def house_rule(ladder, house, rules):
    return tuple([least(ladder, called_chart(house, rules, worth))[-1] for worth in range(len(ladder))])


# What the houses lead to, where their calls bring what these rules lead to.
def one_call_deeper(ladder, program, rules):
    return tuple([house_rule(ladder, house, rules) for house in program])


def least_rules(ladder, program):
    return tuple([steady(ladder, least_of(ladder))] * len(program))


# Deep enough: each round but the last raises what some house leads some worth to, none of them more often than there
# are worths.
def summaries(ladder, program):
    return summaries_by(ladder, program, len(program) * len(ladder) * len(ladder))


def summaries_by(ladder, program, deep):
    rules = least_rules(ladder, program)
    ahead = None
    left = deep
    while left >= 0 and rules != ahead:
        ahead = rules
        rules = one_call_deeper(ladder, program, ahead)
        left = left - 1
    return rules


def answer_in(ladder, program, number, worth):
    refuse_no_house(program, number)
    return least(ladder, called_chart(program[number], summaries(ladder, program), worth))


def called_by(program, number):
    refuse_no_house(program, number)
    chart = chart_of_calls(program)
    return all_reached(chart, goals_of(chart, number))


# Houses taken as places and calls as ways: what a house calls is what is reached from it.
def chart_of_calls(program):
    calls = []
    for number, house in enumerate(program):
        calls.extend([(number, way[2], None) for way in house[1] if is_whole(way[2])])
    return (len(program), tuple(calls), ())


def calls_itself(program, number):
    return number in called_by(program, number)
