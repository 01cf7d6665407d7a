import itertools
import re
import unittest

from ladderhall.charts import is_chart
from ladderhall.errors import NoText
from ladderhall.ladders import is_ladder
from ladderhall.shortening import without_place
from ladderhall.texts import read, written
from tests.samples import (
    BEYOND, DIAMOND, DOWNWARD_CHAIN, LADDERS, ODD_DIAMOND, ONE, SHAPES, chain, charts_over, great_charts, rules_of,
    same, small_charts,
)

TWO = chain(2)
THREE = chain(3)
UP = (1, 2, 2)
CHART = (2, ((0, 1, UP), (1, 1, (0, 1, 2))), ((0, 2), (1, 0)))
TEXT = """\
ladder
0 1 2
1 1 2
2 2 2
places 2
0 1 1 2 2
1 1 0 1 2
begins
0 2
1 0
"""
SIGNS = [chr(number) for number in range(ord(" "), ord("~") + 1)] + ["\n"]
NUMBER = r"(?:0|[1-9][0-9]*)"
ROW = rf"{NUMBER}(?: {NUMBER})*\n"
FORM = re.compile(rf"ladder\n((?:{ROW})*)places ({NUMBER})\n((?:{ROW})*)begins\n((?:{ROW})*)")


def written_told(ladder, chart):
    rows = [["ladder"], *ladder, ["places", chart[0]], *[(start, goal, *rule) for start, goal, rule in chart[1]]]
    rows += [["begins"], *chart[2]]
    return "".join(" ".join(map(str, row)) + "\n" for row in rows)


def read_told(text):
    """What a text is the writing of, found by the form of its lines; None, where it is none."""
    found = FORM.fullmatch(text)
    if not found:
        return None
    ladder, ways, begins = [
        tuple(tuple(int(word) for word in line.split(" ")) for line in found[part].splitlines()) for part in (1, 3, 4)
    ]
    chart = (int(found[2]), tuple((*way[:2], way[2:]) for way in ways), begins)
    return (ladder, chart) if is_ladder(ladder) and is_chart(ladder, chart) else None


def line_changes(text):
    """The text with a line left out, told twice, put elsewhere."""
    lines = text.splitlines(keepends=True)
    for x in range(len(lines)):
        yield "".join(lines[:x] + lines[x + 1:])
        yield "".join(lines[:x] + lines[x:x + 1] + lines[x:])
        for y in range(len(lines)):
            others = lines[:x] + lines[x + 1:]
            yield "".join(others[:y] + lines[x:x + 1] + others[y:])


def sign_changes(text):
    """The text with a sign taken out, put in, exchanged."""
    for x in range(len(text)):
        yield text[:x] + text[x + 1:]
    for x, sign in itertools.product(range(len(text) + 1), SIGNS):
        yield text[:x] + sign + text[x:]
        yield text[:x] + sign + text[x + 1:]


def written_charts():
    yield from small_charts(turns=2)
    for ladder, chart in great_charts(turns=1):
        if is_ladder(ladder) and is_chart(ladder, chart):
            yield ladder, chart
    for ladder in LADDERS:
        for chart in charts_over(ladder, rules_of(ladder), SHAPES, 1):
            yield ladder, chart


class WrittenTest(unittest.TestCase):
    """11.1"""

    def test_by_hand(self):
        self.assertTrue(same(written(THREE, CHART), TEXT))
        self.assertTrue(same(written(ONE, (1, (), ())), "ladder\n0\nplaces 1\nbegins\n"))
        wanted = "ladder\n0 1\n1 1\nplaces 8\n7 0 1 1\nbegins\n"
        self.assertTrue(same(written(TWO, (8, ((7, 0, (1, 1)),), ())), wanted))
        wanted = "ladder\n0 1\n1 1\nplaces 3\nbegins\n2 1\n0 0\n2 1\n"
        self.assertTrue(same(written(TWO, (3, (), ((2, 1), (0, 0), (2, 1)))), wanted))
        wanted = "ladder\n0 0 0 0\n0 1 1 1\n0 1 2 2\n0 1 2 3\nplaces 1\n0 0 0 0 1 2\nbegins\n0 3\n"
        self.assertTrue(same(written(DOWNWARD_CHAIN, (1, ((0, 0, (0, 0, 1, 2)),), ((0, 3),))), wanted))

    def test_numbers_of_two_digits(self):
        lines = written(chain(16), (1, ((0, 0, (15,) * 16),), ((0, 10),))).splitlines()
        self.assertEqual(lines[1], "0 1 2 3 4 5 6 7 8 9 10 11 12 13 14 15")
        self.assertEqual(lines[16], " ".join(["15"] * 16))
        self.assertEqual(lines[17:], ["places 1", "0 0 " + " ".join(["15"] * 16), "begins", "0 10"])

    def test_charts(self):
        for ladder, chart in written_charts():
            self.assertTrue(same(written(ladder, chart), written_told(ladder, chart)))

    def test_beyond_the_bounds(self):
        for ladder, chart in great_charts(turns=1):
            self.assertTrue(same(written(ladder, chart), written_told(ladder, chart)))
        for ladder in BEYOND:
            self.assertTrue(same(written(ladder, (9, (), ())), written_told(ladder, (9, (), ()))))


class ReadTest(unittest.TestCase):
    """11.2 and 0.2 (i)"""

    def assert_no_text(self, text):
        self.assertRaises(NoText, read, text)

    def check(self, text):
        wanted = read_told(text)
        if wanted is None:
            self.assert_no_text(text)
        else:
            self.assertTrue(same(read(text), wanted), text)
            self.assertEqual(written(*wanted), text)

    def test_what_was_written(self):
        for ladder, chart in written_charts():
            self.assertTrue(same(read(written(ladder, chart)), (ladder, chart)))
            self.assertTrue(same(read(written_told(ladder, chart)), (ladder, chart)))

    def test_by_hand(self):
        self.assertTrue(same(read(TEXT), (THREE, CHART)))
        self.assertTrue(same(read("ladder\n0\nplaces 1\nbegins\n"), (ONE, (1, (), ()))))
        self.assertTrue(same(read("ladder\n0\nplaces 8\n7 0 0\nbegins\n"), (ONE, (8, ((7, 0, (0,)),), ()))))
        self.assertTrue(same(read("ladder\n0\nplaces 2\nbegins\n1 0\n"), (ONE, (2, (), ((1, 0),)))))

    def test_signs_taken_out_put_in_and_exchanged(self):
        small = "ladder\n0 1\n1 1\nplaces 2\n1 0 0 1\nbegins\n1 1\n"
        for text in (TEXT, small, "ladder\n0\nplaces 1\nbegins\n"):
            for changed in sign_changes(text):
                self.check(changed)

    def test_lines_left_out_told_twice_and_put_elsewhere(self):
        odd = written_told(ODD_DIAMOND, (3, ((0, 2, (0, 1, 2, 3)), (2, 1, (3, 1, 2, 0))), ((1, 1), (2, 3))))
        for text in (TEXT, odd, written_told(chain(16), (1, (), ((0, 15),))), "ladder\n0\nplaces 1\nbegins\n"):
            for changed in line_changes(text):
                self.check(changed)

    def test_some_changes_are_writings_of_others(self):
        told = [read_told(changed) for changed in itertools.chain(sign_changes(TEXT), line_changes(TEXT))]
        self.assertGreater(len({thing for thing in told if thing}), 10)
        self.assertGreater(told.count(None), 1000)

    def test_blanks_and_line_feeds(self):
        for text in ("", " ", "\n", "\n\n", "ladder", "ladder\n", TEXT[:-1], TEXT + "\n", "\n" + TEXT, TEXT + " "):
            with self.subTest(text=text):
                self.assert_no_text(text)
        for x in [x for x, sign in enumerate(TEXT) if sign in " \n"]:
            with self.subTest(x=x):
                self.assert_no_text(TEXT[:x] + " " + TEXT[x:])
                self.assert_no_text(TEXT[:x + 1] + " " + TEXT[x + 1:])
                self.assert_no_text(TEXT[:x] + "\n" + TEXT[x:])
        self.assert_no_text(TEXT.replace("\n", " "))
        self.assert_no_text(TEXT.replace(" ", "\n"))
        self.assert_no_text(TEXT.replace("\n", "\n\n"))
        self.assert_no_text(TEXT.replace(" ", "  "))
        self.assert_no_text(TEXT.replace("\n", " \n"))

    def test_texts_cut_short(self):
        for x in range(len(TEXT)):
            self.check(TEXT[:x])
            self.check(TEXT[x + 1:])
            self.check(TEXT[:x] + "\n")

    def test_several_writings(self):
        for text in (TEXT + TEXT, TEXT + "ladder\n", TEXT + "places 2\nbegins\n", TEXT + "begins\n", TEXT.upper()):
            with self.subTest(text=text):
                self.assert_no_text(text)

    def test_words(self):
        for word, others in (
            ("ladder", ("ladders", "Ladder", "LADDER", "ladde", "", "chart", "ladder 3", "0", "places 2", "begins")),
            ("places 2", ("places", "places ", "place 2", "places2", "places 2 2", "Places 2", "2", "places two")),
            ("begins", ("begin", "begins 2", "Begins", "beginsx", "", "begins begins", "0 2", "ladder", "places 2")),
        ):
            for other in others:
                with self.subTest(word=word, other=other):
                    self.assert_no_text(TEXT.replace(word, other))

    def test_numbers_written_otherwise(self):
        places = [found.span() for found in re.finditer("[0-9]+", TEXT)]
        for start, end in places:
            number = TEXT[start:end]
            for other in (
                "+" + number, "-" + number, "0" + number, "00" + number, number + ".", number + ".0", "0x" + number,
                number + "_0", "1_" + number, number + "e0", "(" + number + ")", "", "x", "one", "'" + number + "'",
            ):
                with self.subTest(start=start, other=other):
                    self.assert_no_text(TEXT[:start] + other + TEXT[end:])

    def test_numbers_out_of_range(self):
        places = [found.span() for found in re.finditer("[0-9]+", TEXT)]
        for start, end in places:
            for other in ("3", "9", "10", "15", "16", "17", "99", str(10 ** 30), "-1"):
                with self.subTest(start=start, other=other):
                    self.check(TEXT[:start] + other + TEXT[end:])
            # Python itself refuses to make a number of so many digits.
            self.assert_no_text(TEXT[:start] + "9" * 5000 + TEXT[end:])
        for many in (1, 2, 8):
            self.assertEqual(read(f"ladder\n0\nplaces {many}\nbegins\n"), (ONE, (many, (), ())))
        for many in (0, 9, 10, 16, 10 ** 30):
            self.assert_no_text(f"ladder\n0\nplaces {many}\nbegins\n")

    def test_no_ladder(self):
        for rows in (
            "", "1\n", "0 1\n", "0\n0\n", "0 1\n1\n", "0 1\n1 0\n", "0 1\n0 1\n", "0 0\n1 1\n", "0 1\n1 1\n2 2\n",
            "0 2 2\n2 1 2\n2 2 2\n", "0 1 2\n1 1 2\n2 1 2\n", "\n", " \n", "0 1\n1 2\n",
        ):
            with self.subTest(rows=rows):
                self.assert_no_text(f"ladder\n{rows}places 1\nbegins\n")
        for ladder in BEYOND:
            self.assert_no_text(written_told(ladder, (1, (), ())))
        self.assertTrue(same(read(written_told(chain(16), (1, (), ()))), (chain(16), (1, (), ()))))

    def test_no_way(self):
        for way in (
            "", "0", "0 1", "0 1 1", "0 1 1 2", "0 1 1 2 2 2", "0 2 1 2 2", "2 0 1 2 2", "0 1 1 2 3", "0 1 2 1 0",
            "0 1 0 2 1", "way 0 1 1 2 2", "0,1,1,2,2", "0 1 1 2 2,", "0 1 (1, 2, 2)",
        ):
            with self.subTest(way=way):
                self.assert_no_text(TEXT.replace("0 1 1 2 2\n", way + "\n"))
                self.assert_no_text(TEXT.replace("places 2\n", "places 2\n" + way + "\n"))
                self.assert_no_text(TEXT.replace("begins\n", way + "\nbegins\n"))

    def test_a_rule_rises_by_the_order_of_its_ladder(self):
        chart = (1, ((0, 0, (0, 2, 1, 3)),), ())
        self.assertTrue(same(read(written_told(DIAMOND, chart)), (DIAMOND, chart)))
        self.assert_no_text(written_told(chain(4), chart))

    def test_no_begin(self):
        for begin in ("", "0", "0 1 2", "2 0", "0 3", "begin 0 1", "0 1 1 2 2", "0,1"):
            with self.subTest(begin=begin):
                self.assert_no_text(TEXT + begin + "\n")
                self.assert_no_text(TEXT.replace("begins\n", "begins\n" + begin + "\n"))

    def test_many_ways_and_begins(self):
        way, begin = (0, 1, UP), (1, 2)
        for chart in ((2, (way,) * 60, ()), (2, (), (begin,) * 60), (2, (way,) * 60, (begin,) * 60)):
            self.assertTrue(same(read(written_told(THREE, chart)), (THREE, chart)))
        for chart in ((2, (way,) * 61, ()), (2, (), (begin,) * 61), (2, (way,) * 1000, (begin,) * 1000)):
            self.assert_no_text(written_told(THREE, chart))

    def test_what_comes_of_places_left_out(self):
        ladder = chain(16)
        ways = tuple((x, 7, (x,) * 16) for x in range(7)) + tuple((7, x, tuple(range(16))) for x in range(7))
        chart = without_place(ladder, (8, ways, tuple((7, worth) for worth in range(16))), 7)
        self.assertGreater(len(chart[2]), 60)
        self.assertTrue(same(written(ladder, chart), written_told(ladder, chart)))
        self.assert_no_text(written(ladder, chart))
