"""Ladders and charts as texts."""

from ladderhall.charts import is_chart
from ladderhall.errors import NoText
from ladderhall.ladders import MOST_WORTHS, is_ladder


def written(ladder, chart):
    places = chart[0]
    lines = ["ladder"] + [line_of(row) for row in ladder] + [f"places {places}"]
    lines = lines + [line_of((start, goal) + rule) for start, goal, rule in chart[1]]
    lines = lines + ["begins"] + [line_of(begin) for begin in chart[2]]
    return "".join([line + "\n" for line in lines])


def line_of(numbers):
    return " ".join([str(number) for number in numbers])


# What is read need not look at each sign: a text that is not just the writing of what was read is refused.
def read(text):
    lines = text.split("\n")
    places_at = line_beginning(lines, "places")
    begins_at = line_beginning(lines, "begins")
    ladder = tuple([numbers_of(line) for line in lines[1:places_at]])
    ways = tuple([way_of(numbers_of(line)) for line in lines[places_at + 1:begins_at]])
    begins = tuple([numbers_of(line) for line in lines[begins_at + 1:-1]])
    chart = (number_of(lines[places_at].partition(" ")[2]), ways, begins)
    if not is_ladder(ladder) or not is_chart(ladder, chart) or written(ladder, chart) != text:
        raise NoText("this is not the writing of a ladder and a chart")
    return (ladder, chart)


def line_beginning(lines, word):
    for number, line in enumerate(lines):
        if line.startswith(word):
            return number
    raise NoText(f"there is no line {word}")


def numbers_of(line):
    return tuple([number_of(word) for word in line.split(" ")])


# Worths, places and how many places there are: each number in a text is less than the most worths.
def number_of(word):
    words = [str(number) for number in range(MOST_WORTHS)]
    if word not in words:
        raise NoText("this is no number as written here")
    return words.index(word)


def way_of(numbers):
    return numbers[:2] + (numbers[2:],)
