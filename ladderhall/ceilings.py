"""From above: the greatest worths below what is told, and what may begin."""

from ladderhall.charts import is_answer, refuse_no_place
from ladderhall.errors import NoRule
from ladderhall.ladders import joined_all, turned
from ladderhall.rules import led_below
from ladderhall.solving import least


# In the ladder turned upside down, no greater is no less, and what rises still does.
def is_under(ladder, chart, thing):
    return is_answer(turned(ladder), chart, thing)


def greatest(ladder, chart):
    return least(turned(ladder), chart)


def back_rule(ladder, rule):
    return tuple([greatest_led_below(ladder, rule, worth) for worth in range(len(ladder))])


def greatest_led_below(ladder, rule, worth):
    led = led_below(ladder, rule, worth)
    joined = joined_all(ladder, led)
    return joined if joined in led else None


# A way brings no more than its goal may have just if its start has no more than the back rule tells of that.
def demands(ladder, chart, place, worth):
    refuse_no_place(chart[0], place)
    ways = tuple([(goal, start, whole_back_rule(ladder, rule)) for start, goal, rule in chart[1]])
    return greatest(ladder, (chart[0], ways, ((place, worth),)))


def whole_back_rule(ladder, rule):
    back = back_rule(ladder, rule)
    if None in back:
        raise NoRule("this rule can't be gone back everywhere")
    return back
