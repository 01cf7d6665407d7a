"""Charts with places left out, and with like ways and begins joined."""

from ladderhall.charts import refuse_no_place
from ladderhall.ladders import least_of
from ladderhall.rules import after, again_and_again, joined_rules, steady


def without_place(ladder, chart, place):
    refuse_no_place(chart[0], place)
    loop = loop_at(ladder, chart, place)
    coming = [(start, rule) for start, goal, rule in chart[1] if goal == place and start != place]
    going = [(goal, after(loop, rule)) for start, goal, rule in chart[1] if start == place and goal != place]
    begun = [least_of(ladder)] + [worth for begin, worth in chart[2] if begin == place]
    ways = [way for way in chart[1] if place not in way[:2]]
    begins = [begin for begin in chart[2] if begin[0] != place]
    for goal, onward in going:
        ways.extend([(start, goal, after(rule, onward)) for start, rule in coming])
        begins.extend([(goal, onward[worth]) for worth in begun])
    # Like ones are told once: else, place behind place left out, there would be ever more of them.
    return (chart[0], tuple(sorted(set(ways))), tuple(sorted(set(begins))))


def loop_at(ladder, chart, place):
    joined = steady(ladder, least_of(ladder))
    for start, goal, rule in chart[1]:
        if start == place and goal == place:
            joined = joined_rules(ladder, joined, rule)
    return again_and_again(ladder, joined)


def joined_ways(ladder, chart):
    return (chart[0], ways_joined(ladder, chart[1]), begins_joined(ladder, chart[2]))


def ways_joined(ladder, ways):
    rules = {}
    for start, goal, rule in ways:
        rules[(start, goal)] = joined_rules(ladder, rules.get((start, goal), rule), rule)
    return tuple([(start, goal, rules[(start, goal)]) for start, goal in sorted(rules)])


def begins_joined(ladder, begins):
    worths = {}
    for place, worth in begins:
        worths[place] = ladder[worths.get(place, worth)][worth]
    return tuple(sorted(worths.items()))


def without_places(ladder, chart, places):
    shortened = joined_ways(ladder, chart)
    for place in places:
        shortened = joined_ways(ladder, without_place(ladder, shortened, place))
    return shortened
