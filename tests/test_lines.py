"""Points 51 and 53: breakings, found from the end and from the beginning, and blocked stretches."""

import random
import unittest

from stylepages.errors import Blocked
from stylepages.lines.blocked import blocked_stretch
from stylepages.lines.breaking import break_lines
from stylepages.lines.forward import break_forward
from stylepages.lines.measure import Measure
from tests.plain_lines import PlainRow, plain_pair, plain_price, random_measure, random_row

EXAMPLE = ((10, 10, 10), (("gap", 4, 2, 1), ("gap", 4, 2, 1)))


def answer(function, row, measure):
    """Return what the function returns, or the stretch of its `Blocked`."""
    try:
        return function(row, measure)
    except Blocked as error:
        return ("blocked", (error.start, error.end))


def boxes(*widths, gap=2, stretch=0, shrink=0):
    return (widths, (("gap", gap, stretch, shrink),) * (len(widths) - 1))


class BreakingTest(unittest.TestCase):
    def both(self, row, measure, expected):
        self.assertEqual(answer(break_lines, row, measure), expected)
        self.assertEqual(answer(break_forward, row, measure), expected)

    def check(self, row, measure, price, ends):
        self.both(row, measure, (price, ends))
        self.assertIsNone(blocked_stretch(row, measure))

    def blocked(self, row, measure, start, end):
        self.both(row, measure, ("blocked", (start, end)))
        self.assertEqual(blocked_stretch(row, measure), (start, end))

    def test_the_examples(self):
        self.check(EXAMPLE, Measure(24), 0, (2, 3))
        self.check(EXAMPLE, Measure(23), 100, (2, 3))
        self.blocked(EXAMPLE, Measure(9), 0, 1)

    def test_no_boxes(self):
        self.check(((), ()), Measure(1), 0, ())
        self.check(((), ()), Measure(1, indent=99, river=9), 0, ())

    def test_one_box(self):
        self.check(((7,), ()), Measure(7), 0, (1,))
        self.check(((7,), ()), Measure(8, align="left"), 0, (1,))
        self.blocked(((7,), ()), Measure(6), 0, 1)
        self.blocked(((7,), ()), Measure(7, indent=1), 0, 1)

    def test_kinds_of_values(self):
        for function in (break_lines, break_forward):
            found = function(EXAMPLE, Measure(24))
            self.assertIsInstance(found, tuple)
            self.assertIsInstance(found[1], tuple)
            self.assertIsInstance(function(((), ()), Measure(24))[1], tuple)

    def test_the_least_sum(self):
        # The first line that fills its room best has the price 0, but leads to a line with the price 16.
        self.check(boxes(10, 10, 10, 20, 20), Measure(34, align="left"), 12, (2, 4, 5))
        row = ((10, 10, 10, 10), (("gap", 4, 4, 1),) * 3)
        self.check(row, Measure(26), 25, (2, 4))
        self.check(row, Measure(51), 11, (4,))
        self.check(row, Measure(42), 25, (3, 4))

    def test_hyphens(self):
        row = ((6, 6, 6, 6), (("hyphen", 2, 0), ("hyphen", 2, 0), ("hyphen", 2, 0)))
        self.check(row, Measure(8), 350, (1, 2, 3, 4))
        self.check(row, Measure(8, hyphen=1, twin=0), 3, (1, 2, 3, 4))
        self.check(row, Measure(14), 50, (2, 4))
        self.check(row, Measure(24), 0, (4,))

    def test_equal_prices_take_fewer_lines(self):
        self.check(boxes(5, 5, 5, 5), Measure(12, align="left"), 0, (2, 4))
        row = ((5, 5, 5), (("hyphen", 7, 0), ("hyphen", 2, 0)))
        self.check(row, Measure(12, hyphen=0, twin=0), 0, (1, 3))
        free = ((10, 10), (("hyphen", 1, 0),))
        self.check(free, Measure(30, align="left"), 0, (2,))
        zero = ((1, 1, 1), (("gap", 1, 0, 0), ("gap", 1, 0, 0)))
        self.check(zero, Measure(5, align="left"), 0, (3,))

    def test_equal_prices_and_numbers_take_the_least_ends(self):
        row = boxes(200, 1, 200, gap=1)
        self.check(row, Measure(202, align="left"), 0, (1, 3))
        self.check(boxes(200, 1, 1, 200, gap=1), Measure(204, align="left"), 0, (1, 4))
        self.check(boxes(200, 1, 200, 1, 200, gap=1), Measure(203, align="left"), 0, (1, 3, 5))

    def test_rivers_that_forbid_the_cheapest_pair(self):
        row = boxes(5, 5, 5, 5, 5, 5)
        self.check(row, Measure(12, align="left"), 0, (2, 4, 6))
        self.check(row, Measure(12, align="left", river=1), 34, (2, 3, 5, 6))
        self.check(row, Measure(12, align="left", river=2), 0, (2, 4, 6))
        self.assertIsNone(plain_pair(row, 0, 2, 4, Measure(12, align="left", river=1)))

    def test_rivers_that_block(self):
        row = boxes(5, 5, 5, 5, 5, 5)
        self.blocked(row, Measure(12, river=1), 0, 3)
        self.check(row, Measure(12, river=2), 0, (2, 4, 6))
        self.check(row, Measure(12), 0, (2, 4, 6))
        self.check(boxes(5, 5, 5), Measure(12, river=1), 0, (2, 3))
        self.blocked(boxes(5, 5, 5, 5), Measure(12, river=1), 0, 3)

    def test_a_stretch_of_one_box(self):
        self.blocked(boxes(5, 5, 40, 5), Measure(12), 2, 3)
        self.blocked(boxes(5, 40, 40, 5), Measure(12, align="left"), 1, 2)
        self.blocked(boxes(5, 5, 5), Measure(20, indent=16, align="left"), 0, 1)
        self.blocked(boxes(5, 5, 5, 9, 9), Measure(12), 3, 4)
        self.blocked(boxes(5, 9), Measure(12), 0, 1)

    def test_a_stretch_of_the_whole_row(self):
        self.blocked(((7,), ()), Measure(6), 0, 1)
        self.blocked(((7,), ()), Measure(6, align="left", river=3), 0, 1)

    def test_stretches_of_several_boxes(self):
        # Lines of two boxes fit; of the lines of one box only a last one does.
        self.blocked(boxes(5, 5, 5, 7), Measure(12), 0, 3)
        self.blocked(boxes(5, 5, 6, 4), Measure(12, river=1), 1, 3)
        self.check(boxes(5, 5, 6, 4), Measure(12, river=2), 0, (2, 4))

    def test_the_shortest_then_the_first_stretch(self):
        self.blocked(boxes(40, 5, 40, 5), Measure(12, align="left"), 0, 1)
        self.blocked(boxes(5, 5, 5, 5, 5, 5, 40), Measure(12, river=1), 6, 7)

    def test_stretches_against_a_plain_search(self):
        source = random.Random(530)
        lengths = {}
        for _ in range(3000):
            many = source.randint(1, 7)
            row, measure = random_row(source, many), random_measure(source, 30)
            stretch = PlainRow(row, measure).blocked()
            self.assertEqual(blocked_stretch(row, measure), stretch)
            if stretch is not None:
                lengths[stretch[1] - stretch[0]] = lengths.get(stretch[1] - stretch[0], 0) + 1
        self.assertGreater(min(lengths[1], lengths[2], lengths[3]), 5, lengths)

    def test_against_a_plain_search(self):
        source = random.Random(51)
        broken, ties, blocked = 0, 0, {}
        for number in range(2500):
            row, measure = random_row(source, source.randint(1, 8)), random_measure(source)
            plain = PlainRow(row, measure)
            expected = plain.breaking()
            stretch = plain.blocked()
            self.assertEqual(expected is None, stretch is not None)
            self.both(row, measure, ("blocked", stretch) if expected is None else expected)
            self.assertEqual(blocked_stretch(row, measure), stretch)
            if expected is None:
                blocked[stretch[1] - stretch[0]] = True
            else:
                broken += 1
                found = [ends for ends, price in plain.chains(0) if ends[-1] == len(row[0]) and price == expected[0]]
                ties += len(found) > 1
        self.assertGreater(broken, 400)
        self.assertGreater(ties, 5)
        self.assertGreater(len(blocked), 2)

    def test_rivers_against_a_plain_search(self):
        source = random.Random(52)
        outcomes = {"other": 0, "same": 0, "blocked": 0}
        for number in range(800):
            row = random_row(source, source.randint(5, 9), 4)
            measure = Measure(
                source.randint(9, 16), align=source.choice(["left", "both"]), river=1, loose=9, hyphen=source.choice([0, 50])
            )
            plain = PlainRow(row, measure)
            expected = plain.breaking()
            self.both(row, measure, ("blocked", plain.blocked()) if expected is None else expected)
            free = Measure.of(measure.key()[:5] + (0,) + measure.key()[6:])
            if expected is None:
                outcomes["blocked"] += answer(break_lines, row, free)[0] != "blocked"
            else:
                outcomes["same" if break_lines(row, free) == expected else "other"] += 1
        self.assertGreater(min(outcomes.values()), 10, outcomes)

    def test_the_two_ways_agree(self):
        source = random.Random(53)
        for _ in range(120):
            many = source.randint(10, 40)
            row, measure = random_row(source, many), random_measure(source, 70, 3)
            found = answer(break_lines, row, measure)
            self.assertEqual(answer(break_forward, row, measure), found)
            stretch = blocked_stretch(row, measure)
            self.assertEqual(found[1] if found[0] == "blocked" else None, stretch)

    def check_price(self, row, measure, found):
        """The price of the breaking is the sum that point 51 demands."""
        price, ends = found
        places = (0,) + ends
        total = sum(plain_price(row, i, k, measure) for i, k in zip(places, places[1:]))
        total += sum(plain_pair(row, i, j, k, measure) for i, j, k in zip(places, places[1:], places[2:]))
        self.assertEqual((price, ends[-1]), (total, len(row[0])))

    def test_long_rows(self):
        source = random.Random(54)
        wide = (tuple(source.randint(4, 20) for _ in range(100)), (("gap", 6, 5, 2),) * 99)
        for measure in (Measure(120), Measure(120, align="left"), Measure(10500), Measure(10500, align="left")):
            found = break_lines(wide, measure)
            self.assertEqual(break_forward(wide, measure), found)
            self.check_price(wide, measure, found)
        short = (wide[0][:40], (("gap", 6, 9, 2), ("hyphen", 3, 1)) * 19 + (("gap", 6, 9, 2),))
        for measure in (
            Measure(90, river=1, loose=9), Measure(90, river=2, align="left"), Measure(600, river=1, align="left"),
            Measure(10500, river=1),
        ):
            found = answer(break_lines, short, measure)
            self.assertEqual(answer(break_forward, short, measure), found)
            if found[0] != "blocked":
                self.check_price(short, measure, found)
        self.assertEqual(break_lines(short, Measure(600, river=1, align="left"))[1], (40,))

    def test_large_numbers(self):
        row = ((5000,) * 40, (("gap", 500, 500, 499),) * 39)
        self.check(row, Measure(10500), 0, tuple(range(2, 41, 2)))
        self.blocked(row, Measure(4999), 0, 1)

    def test_arguments_stay(self):
        measure = Measure(24)
        break_lines(EXAMPLE, measure)
        self.assertEqual(measure.key(), Measure(24).key())


if __name__ == "__main__":
    unittest.main()
