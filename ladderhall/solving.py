"""Least answers of charts, and the steps that lead to them."""

from ladderhall.charts import is_answer
from ladderhall.errors import NoStep
from ladderhall.kinds import is_named_number
from ladderhall.ladders import is_below, least_of


def lowest(ladder, chart):
    return tuple([least_of(ladder)] * chart[0])


def least(ladder, chart):
    return least_by(ladder, chart, all_steps(chart))[0]


def all_steps(chart):
    begins = [("begin", number) for number in range(len(chart[2]))]
    return begins + [("way", number) for number in range(len(chart[1]))]


def is_step(chart, thing):
    return is_named_number(thing, {"begin": len(chart[2]), "way": len(chart[1])})


def refuse_no_step(chart, steps):
    if not all([is_step(chart, step) for step in steps]):
        raise NoStep("the chart has no such begin or way")


def place_and_worth(chart, worths, step):
    if step[0] == "begin":
        return chart[2][step[1]]
    way = chart[1][step[1]]
    return (way[1], way[2][worths[way[0]]])


def worths_behind(ladder, chart, worths, step):
    coming = place_and_worth(chart, worths, step)
    place = coming[0]
    joined = ladder[worths[place]][coming[1]]
    return worths[:place] + (joined,) + worths[place + 1:]


def gone(ladder, chart, steps):
    refuse_no_step(chart, steps)
    worths = lowest(ladder, chart)
    for step in steps:
        worths = worths_behind(ladder, chart, worths, step)
    return worths


# Besides the worths, the steps that raised something: with the others left out one comes to the same.
def risen(ladder, chart, order, worths):
    raising = []
    ahead = None
    # Each round but the last raises something, and nothing sinks, so this ends.
    while worths != ahead:
        ahead = worths
        for step in order:
            behind = worths_behind(ladder, chart, worths, step)
            if behind != worths:
                raising.append(step)
            worths = behind
    return (worths, raising)


def least_by(ladder, chart, order):
    refuse_no_step(chart, order)
    ended = risen(ladder, chart, order, lowest(ladder, chart))
    return (ended[0], len(ended[1]))


def is_paper(ladder, chart, answer, thing):
    if not isinstance(thing, list) or not all([is_step(chart, step) for step in thing]):
        return False
    return is_answer(ladder, chart, answer) and gone(ladder, chart, thing) == answer


def paper_for(ladder, chart):
    return risen(ladder, chart, all_steps(chart), lowest(ladder, chart))[1]


def missing(ladder, chart, worths):
    for step in all_steps(chart):
        if worths_behind(ladder, chart, worths, step) != worths:
            return step
    return None


def is_least_at(ladder, chart, place, worth):
    return is_below(ladder, least(ladder, chart)[place], worth)
