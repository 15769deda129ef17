"""Points 46 to 50: glue, prices and places of lines, and pair prices."""

import random
import unittest

from stylepages.lines.glue import Glue
from stylepages.lines.measure import Measure
from stylepages.lines.prices import box_places, gap_spans, line_glue, line_price, pair_price
from tests.plain_lines import plain_glue, plain_pair, plain_places, plain_price, plain_spans, random_measure, random_row

# Boxes a-b c d-e: widths 10, 8, 12, 9, 7; the glue of all of it is (55, 9, 3).
ROW = ((10, 8, 12, 9, 7), (("hyphen", 3, 2), ("gap", 6, 4, 2), ("gap", 5, 5, 1), ("hyphen", 4, 0)))


class GlueOfLinesTest(unittest.TestCase):
    def check(self, start, end, parts):
        glue = line_glue(ROW, start, end)
        self.assertIsInstance(glue, Glue)
        self.assertEqual(glue.parts(), parts)

    def test_lines(self):
        self.check(0, 1, (13, 0, 0))
        self.check(0, 2, (16, 0, 0))
        self.check(0, 3, (34, 4, 2))
        self.check(0, 4, (52, 9, 3))
        self.check(0, 5, (55, 9, 3))
        self.check(1, 2, (8, 0, 0))
        self.check(2, 4, (30, 5, 1))
        self.check(3, 5, (16, 0, 0))
        self.check(4, 5, (7, 0, 0))

    def test_the_end_of_a_row_is_no_hyphen(self):
        row = ((5, 5), (("hyphen", 3, 1),))
        self.assertEqual(line_glue(row, 0, 2).parts(), (9, 0, 0))
        self.assertEqual(line_glue(row, 1, 2).parts(), (5, 0, 0))
        self.assertEqual(line_glue(row, 0, 1).parts(), (8, 0, 0))

    def test_against_a_plain_reading(self):
        source = random.Random(47)
        for _ in range(50):
            row = random_row(source, source.randint(1, 9))
            for start in range(len(row[0])):
                for end in range(start + 1, len(row[0]) + 1):
                    self.assertEqual(line_glue(row, start, end).parts(), plain_glue(row, start, end))


class PriceTest(unittest.TestCase):
    def price(self, start, end, width, **given):
        return line_price(ROW, start, end, Measure(width, **given))

    def test_shrunk(self):
        self.assertEqual(self.price(0, 3, 33), 25)
        self.assertEqual(self.price(0, 3, 32), 100)
        self.assertIsNone(self.price(0, 3, 31))
        self.assertIsNone(self.price(0, 2, 15))

    def test_stretched(self):
        self.assertEqual(self.price(0, 3, 35), 6)
        self.assertEqual(self.price(0, 3, 42), 400)
        self.assertIsNone(self.price(0, 3, 43))
        self.assertEqual(self.price(0, 3, 43, loose=3), 506)
        self.assertEqual(self.price(0, 3, 46, loose=3), 900)
        self.assertIsNone(self.price(0, 3, 47, loose=3))
        self.assertIsNone(self.price(0, 3, 35, loose=0))
        self.assertIsNone(self.price(0, 2, 17))

    def test_just_as_wide(self):
        self.assertEqual(self.price(0, 3, 34), 0)
        self.assertEqual(self.price(0, 2, 16), 0)
        self.assertEqual(self.price(0, 3, 34, loose=0), 0)

    def test_the_last_line(self):
        self.assertEqual(self.price(0, 5, 55), 0)
        self.assertEqual(self.price(0, 5, 5000), 0)
        self.assertEqual(self.price(3, 5, 17), 0)
        self.assertEqual(self.price(0, 5, 54), 11)
        self.assertEqual(self.price(0, 5, 52), 100)
        self.assertIsNone(self.price(0, 5, 51))
        self.assertIsNone(self.price(3, 5, 15))

    def test_align_left(self):
        self.assertEqual(self.price(0, 3, 34, align="left"), 0)
        self.assertEqual(self.price(0, 3, 40, align="left"), 2)
        self.assertEqual(self.price(0, 3, 68, align="left"), 25)
        self.assertEqual(self.price(0, 3, 10000, align="left"), 99)
        self.assertIsNone(self.price(0, 3, 33, align="left"))
        self.assertEqual(self.price(0, 5, 55, align="left"), 0)
        self.assertEqual(self.price(0, 5, 99, align="left"), 0)
        self.assertIsNone(self.price(0, 5, 54, align="left"))
        self.assertEqual(self.price(0, 2, 17, align="left"), 0)

    def test_a_hyphen_at_the_end(self):
        self.assertEqual(self.price(0, 1, 13), 50)
        self.assertEqual(self.price(0, 1, 13, hyphen=7), 7)
        self.assertIsNone(self.price(0, 1, 12))
        self.assertEqual(self.price(2, 4, 35), 150)
        self.assertEqual(self.price(2, 4, 35, align="left"), 52)
        self.assertEqual(self.price(2, 4, 29, hyphen=1), 101)

    def test_a_hyphen_within(self):
        self.assertEqual(self.price(0, 2, 16, hyphen=9999), 0)
        self.assertEqual(self.price(3, 5, 16), 0)

    def test_the_indent(self):
        self.assertEqual(self.price(0, 3, 44, indent=10), 0)
        self.assertEqual(self.price(0, 3, 34, indent=2), 100)
        self.assertIsNone(self.price(0, 3, 34, indent=3))
        self.assertEqual(self.price(1, 3, 26, indent=10), 0)
        self.assertEqual(self.price(0, 3, 78, indent=10, align="left"), 25)
        self.assertEqual(self.price(1, 3, 52, indent=10, align="left"), 25)

    def test_no_room(self):
        for align in ("both", "left"):
            for width in (1, 9, 10):
                for end in range(1, 6):
                    self.assertIsNone(self.price(0, end, width, indent=10, align=align))
            self.assertEqual(self.price(4, 5, 9, indent=99, align=align), 0)

    def test_against_a_plain_reading(self):
        source = random.Random(48)
        possible = 0
        for _ in range(300):
            row, measure = random_row(source, source.randint(1, 7)), random_measure(source)
            for start in range(len(row[0])):
                for end in range(start + 1, len(row[0]) + 1):
                    expected = plain_price(row, start, end, measure)
                    self.assertEqual(line_price(row, start, end, measure), expected)
                    possible += expected is not None
        self.assertGreater(possible, 300)


class PlacesTest(unittest.TestCase):
    def check(self, start, end, measure, places, spans):
        self.assertEqual(box_places(ROW, start, end, measure), places)
        self.assertEqual(gap_spans(ROW, start, end, measure), spans)

    def test_plain_lines(self):
        self.check(0, 4, Measure(52), [0, 8, 22, 39], [(16, 22), (34, 39)])
        self.check(0, 1, Measure(13), [0], [])
        self.check(3, 5, Measure(16), [0, 9], [])

    def test_stretched_lines(self):
        self.check(0, 4, Measure(53), [0, 8, 22, 40], [(16, 22), (34, 40)])
        self.check(0, 4, Measure(55), [0, 8, 23, 42], [(16, 23), (35, 42)])
        self.check(2, 4, Measure(40), [0, 27], [(12, 27)])

    def test_the_last_line_is_not_stretched(self):
        self.check(0, 5, Measure(90), [0, 8, 22, 39, 48], [(16, 22), (34, 39)])

    def test_shrunk_lines(self):
        self.check(0, 4, Measure(51), [0, 8, 22, 38], [(16, 22), (34, 38)])
        self.check(0, 4, Measure(50), [0, 8, 21, 37], [(16, 21), (33, 37)])
        self.check(0, 4, Measure(49), [0, 8, 20, 36], [(16, 20), (32, 36)])
        self.check(0, 5, Measure(53), [0, 8, 21, 37, 46], [(16, 21), (33, 37)])

    def test_rounding(self):
        row = ((5, 5, 5, 5), (("gap", 4, 1, 1), ("gap", 4, 1, 1), ("gap", 4, 1, 1)))
        self.assertEqual(box_places(row, 0, 4, Measure(31)), [0, 9, 18, 26])
        self.assertEqual(box_places(row, 0, 4, Measure(30)), [0, 9, 17, 25])
        longer = (row[0] + (5,), row[1] + (("gap", 4, 1, 1),))
        self.assertEqual(box_places(longer, 0, 4, Measure(33)), [0, 9, 18, 28])
        self.assertEqual(box_places(longer, 0, 4, Measure(34)), [0, 9, 19, 29])
        self.assertEqual(box_places(longer, 0, 4, Measure(31)), [0, 9, 18, 26])

    def test_align_left(self):
        self.check(0, 4, Measure(90, align="left"), [0, 8, 22, 39], [(16, 22), (34, 39)])
        self.check(0, 5, Measure(90, align="left"), [0, 8, 22, 39, 48], [(16, 22), (34, 39)])

    def test_the_indent(self):
        self.check(0, 4, Measure(62, indent=10), [10, 18, 32, 49], [(26, 32), (44, 49)])
        self.check(0, 4, Measure(59, indent=10), [10, 18, 30, 46], [(26, 30), (42, 46)])
        self.check(2, 4, Measure(30, indent=10), [0, 17], [(12, 17)])
        self.check(0, 4, Measure(62, indent=10, align="left"), [10, 18, 32, 49], [(26, 32), (44, 49)])

    def test_answers_are_new(self):
        measure = Measure(52)
        box_places(ROW, 0, 4, measure).append(1)
        gap_spans(ROW, 0, 4, measure).clear()
        self.check(0, 4, measure, [0, 8, 22, 39], [(16, 22), (34, 39)])

    def test_against_a_plain_reading(self):
        source = random.Random(49)
        for _ in range(300):
            row, measure = random_row(source, source.randint(1, 8)), random_measure(source)
            for start in range(len(row[0])):
                for end in range(start + 1, len(row[0]) + 1):
                    if plain_price(row, start, end, measure) is not None:
                        self.assertEqual(box_places(row, start, end, measure), plain_places(row, start, end, measure))
                        self.assertEqual(gap_spans(row, start, end, measure), plain_spans(row, start, end, measure))


class PairPriceTest(unittest.TestCase):
    def row(self, *widths, gap=2):
        """Return a row of plain gaps; each line of it stands as it is."""
        return (widths, (("gap", gap, 0, 0),) * (len(widths) - 1))

    def price(self, row, start, middle, end, width=99, **given):
        return pair_price(row, start, middle, end, Measure(width, align="left", **given))

    def test_overlapping_spans(self):
        row = self.row(5, 5, 5, 5)
        self.assertEqual(self.price(row, 0, 2, 4), 0)
        self.assertIsNone(self.price(row, 0, 2, 4, river=1))
        self.assertEqual(self.price(row, 0, 2, 4, river=2), 0)

    def test_spans_that_touch(self):
        for behind, price in ((2, 0), (3, 0), (4, None), (5, None), (6, None), (7, 0), (8, 0)):
            self.assertEqual(self.price(self.row(5, 5, behind, 5), 0, 2, 4, river=1), price, behind)

    def test_the_count(self):
        row = self.row(5, 5, 5, 5, 5, 5, 5, 5)
        for river, price in ((0, 0), (1, None), (2, None), (3, None), (4, 0), (9, 0)):
            self.assertEqual(self.price(row, 0, 4, 8, river=river), price)

    def test_gaps_are_counted_in_the_line_behind(self):
        wide = ((5, 5, 1, 1, 1), (("gap", 20, 0, 0), ("gap", 2, 0, 0), ("gap", 5, 0, 0), ("gap", 5, 0, 0)))
        self.assertEqual(plain_spans(wide, 2, 5, Measure(99, align="left")), [(1, 6), (7, 12)])
        self.assertIsNone(self.price(wide, 0, 2, 5, river=2))
        self.assertEqual(self.price(wide, 0, 2, 5, river=3), 0)
        turned = ((1, 1, 1, 5, 5), (("gap", 5, 0, 0), ("gap", 5, 0, 0), ("gap", 2, 0, 0), ("gap", 20, 0, 0)))
        self.assertEqual(self.price(turned, 0, 3, 5, river=2), 0)
        self.assertIsNone(self.price(turned, 0, 3, 5, river=1))

    def test_lines_without_gaps(self):
        self.assertEqual(self.price(self.row(5, 5), 0, 1, 2, river=1), 0)

    def test_twins(self):
        row = ((5, 5, 5, 5), (("hyphen", 1, 0), ("hyphen", 1, 0), ("gap", 2, 0, 0)))
        self.assertEqual(self.price(row, 0, 1, 2), 100)
        self.assertEqual(self.price(row, 0, 1, 2, twin=7), 7)
        self.assertEqual(self.price(row, 0, 1, 3), 0)
        self.assertEqual(self.price(row, 0, 2, 3), 0)
        self.assertEqual(self.price(row, 0, 1, 4), 0)
        self.assertEqual(self.price(((5, 5, 5), (("hyphen", 1, 0),) * 2), 0, 1, 3), 0)
        self.assertEqual(self.price(((5, 5, 5), (("gap", 2, 0, 0), ("hyphen", 1, 0))), 0, 1, 2), 0)

    def test_twins_and_rivers(self):
        row = ((5, 5, 5, 5, 5), (("gap", 2, 0, 0), ("hyphen", 1, 0), ("gap", 2, 0, 0), ("hyphen", 1, 0)))
        self.assertEqual(self.price(row, 0, 2, 4), 100)
        self.assertIsNone(self.price(row, 0, 2, 4, river=1))
        self.assertEqual(self.price(row, 0, 2, 4, river=2), 100)

    def test_against_a_plain_reading(self):
        source = random.Random(50)
        blocked = 0
        for _ in range(600):
            row, measure = random_row(source, source.randint(2, 9)), random_measure(source, most_river=3)
            many = len(row[0])
            triples = [(i, j, k) for i in range(many) for j in range(i + 1, many) for k in range(j + 1, many + 1)]
            for start, middle, end in triples:
                one, other = plain_price(row, start, middle, measure), plain_price(row, middle, end, measure)
                if one is not None and other is not None:
                    expected = plain_pair(row, start, middle, end, measure)
                    self.assertEqual(pair_price(row, start, middle, end, measure), expected)
                    blocked += expected is None
        self.assertGreater(blocked, 100)


if __name__ == "__main__":
    unittest.main()
