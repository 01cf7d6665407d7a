"""Paths through a chart, and what they bring."""

from ladderhall.charts import refuse_no_place
from ladderhall.errors import NoStep
from ladderhall.kinds import is_named_number
from ladderhall.ladders import joined_all, least_of


def all_starts(chart):
    places = [("place", number) for number in range(chart[0])]
    return places + [("begin", number) for number in range(len(chart[2]))]


def is_start(chart, thing):
    return is_named_number(thing, {"place": chart[0], "begin": len(chart[2])})


def started(ladder, chart, start):
    if start[0] == "place":
        return (start[1], least_of(ladder))
    return chart[2][start[1]]


def ways_from(chart, place):
    return [number for number, way in enumerate(chart[1]) if way[0] == place]


def led_on(chart, state, number):
    way = chart[1][number]
    return (way[1], way[2][state[1]])


def brought(ladder, chart, start, ways):
    if not is_start(chart, start):
        raise NoStep("no path starts so")
    state = started(ladder, chart, start)
    for number in ways:
        if number not in ways_from(chart, state[0]):
            raise NoStep("no such way goes on from where the path is")
        state = led_on(chart, state, number)
    return state


# By each state to which paths lead, one of the paths there of the fewest ways.
def shortest_paths(ladder, chart):
    paths = {}
    for start in all_starts(chart):
        paths.setdefault(started(ladder, chart, start), (start, []))
    newest = list(paths)
    # All paths of so many ways are there ahead of those of one more, so the first to a state is a shortest one.
    while newest:
        further = longer_paths(chart, paths, newest)
        paths.update(further)
        newest = list(further)
    return paths


def longer_paths(chart, paths, newest):
    longer = {}
    for state in newest:
        path = paths[state]
        for number in ways_from(chart, state[0]):
            reached = led_on(chart, state, number)
            if reached not in paths:
                longer[reached] = (path[0], path[1] + [number])
    return longer


def states(ladder, chart):
    return sorted(shortest_paths(ladder, chart))


def path_to(ladder, chart, place, worth):
    return shortest_paths(ladder, chart).get((place, worth))


def by_paths(ladder, chart):
    ends = states(ladder, chart)
    return tuple([joined_at(ladder, ends, place) for place in range(chart[0])])


def joined_at(ladder, ends, place):
    return joined_all(ladder, [worth for end, worth in ends if end == place])


def goals_of(chart, place):
    refuse_no_place(chart[0], place)
    return sorted(set(goals_from(chart, [place])))


def goals_from(chart, places):
    return [goal for start, goal, rule in chart[1] if start in places]


def places_reached(chart, place):
    refuse_no_place(chart[0], place)
    return all_reached(chart, [place])


def all_reached(chart, places):
    reached = places
    ahead = None
    while reached != ahead:
        ahead = reached
        reached = sorted(set(ahead + goals_from(chart, ahead)))
    return reached
