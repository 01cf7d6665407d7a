"""A least answer that is kept while begins and ways come."""

from ladderhall.charts import refuse_no_place
from ladderhall.rules import refuse_unrising
from ladderhall.solving import all_steps, lowest, risen


class Keeper:
    def __init__(self, ladder, places):
        self.ladder = ladder
        self.places = places
        self.ways = ()
        self.begins = ()
        self.worths = lowest(ladder, self.chart())
        self.many_raises = 0

    def add_begin(self, place, worth):
        refuse_no_place(self.places, place)
        self.begins = self.begins + ((place, worth),)
        self.rise()

    def add_way(self, start, goal, rule):
        refuse_no_place(self.places, start)
        refuse_no_place(self.places, goal)
        refuse_unrising(self.ladder, rule)
        self.ways = self.ways + ((start, goal, rule),)
        self.rise()

    # The answer so far is no greater than the new one, so one may go on from it.
    def rise(self):
        chart = self.chart()
        ended = risen(self.ladder, chart, all_steps(chart), self.worths)
        self.worths = ended[0]
        self.many_raises = self.many_raises + len(ended[1])

    def chart(self):
        return (self.places, self.ways, self.begins)

    def answer(self):
        return self.worths

    def raises(self):
        return self.many_raises
