"""Point 52: the certificate of a row."""

import random
import unittest

from stylepages.errors import Blocked
from stylepages.lines.breaking import break_lines
from stylepages.lines.certificate import line_certificate
from stylepages.lines.measure import Measure
from stylepages.lines.prices import line_price, pair_price
from tests.plain_lines import PlainRow, random_measure, random_row
from tests.test_lines import EXAMPLE, boxes


class LineCertificateTest(unittest.TestCase):
    def check(self, row, measure, *rows):
        self.assertEqual(line_certificate(row, measure), list(rows))

    def test_no_boxes(self):
        self.check(((), ()), Measure(1))
        self.check(((), ()), Measure(300, river=2))

    def test_one_box(self):
        self.check(((7,), ()), Measure(7), (0, 1, 0, 0))
        self.check(((7,), ()), Measure(6))

    def test_kinds_of_values(self):
        found = line_certificate(EXAMPLE, Measure(24))
        self.assertIsInstance(found, list)
        for row in found:
            self.assertIsInstance(row, tuple)

    def test_a_row_with_a_breaking(self):
        # The line (0, 1) would have to be stretched, but has no gap; (1, 3) cannot be reached.
        self.check(EXAMPLE, Measure(24), (0, 2, 0, 0), (2, 3, 0, 0))
        self.check(EXAMPLE, Measure(23), (0, 2, 100, 0), (2, 3, 0, 0))
        self.check(
            boxes(5, 5, 5), Measure(12, align="left"),
            (0, 1, 34, 0), (0, 2, 0, 0), (1, 2, 34, 0), (1, 3, 0, 0), (2, 3, 0, 0),
        )

    def test_a_row_without_a_breaking(self):
        self.check(EXAMPLE, Measure(9))
        self.check(boxes(5, 5, 40), Measure(12), (0, 2, 0, None))
        self.check(boxes(5, 5, 40), Measure(12, align="left"), (0, 1, 34, None), (0, 2, 0, None), (1, 2, 34, None))

    def test_nothing_goes_on_behind_some_lines(self):
        row = boxes(5, 5, 5, 5)
        measure = Measure(12, align="left", river=1)
        # The line (2, 4) must not follow the line (0, 2), but it may follow (1, 2).
        self.assertIsNone(pair_price(row, 0, 2, 4, measure))
        self.check(
            row, measure,
            (0, 1, 34, 0), (0, 2, 0, 34), (1, 2, 34, 0), (1, 3, 0, 0), (2, 3, 34, 0), (2, 4, 0, 0), (3, 4, 0, 0),
        )
        self.check(boxes(5, 5, 5, 5), Measure(12, river=1), (0, 2, 0, None))
        self.check(boxes(5, 5, 5, 5), Measure(12, river=2), (0, 2, 0, 0), (2, 4, 0, 0))

    def test_lines_that_are_possible_but_not_reached(self):
        row = boxes(5, 5, 5, 7)
        measure = Measure(12)
        self.assertEqual(line_price(row, 1, 3, measure), 0)
        self.assertEqual(line_price(row, 3, 4, measure), 0)
        self.check(row, measure, (0, 2, 0, None))

    def test_the_rest_has_the_pair_prices(self):
        row = ((6, 6, 6), (("hyphen", 2, 0), ("hyphen", 2, 0)))
        self.check(row, Measure(8), (0, 1, 50, 150), (1, 2, 50, 0), (2, 3, 0, 0))
        self.check(row, Measure(8, hyphen=3, twin=7), (0, 1, 3, 10), (1, 2, 3, 0), (2, 3, 0, 0))

    def test_the_first_line_is_indented(self):
        row = boxes(5, 5, 5)
        self.check(row, Measure(12, indent=7), (0, 1, 0, 0), (1, 3, 0, 0))

    def test_arguments_stay(self):
        measure = Measure(24, river=1)
        line_certificate(EXAMPLE, measure)
        self.assertEqual(measure.key(), Measure(24, river=1).key())

    def test_against_a_plain_search(self):
        source = random.Random(520)
        outcomes = {"none": 0, "some": 0, "unreached": 0, "open": 0}
        for _ in range(900):
            row, measure = random_row(source, source.randint(1, 8)), random_measure(source)
            plain = PlainRow(row, measure)
            expected = plain.certificate()
            self.assertEqual(line_certificate(row, measure), expected)
            outcomes["unreached"] += len(expected) < len(plain.prices)
            whole = plain.breaking()
            outcomes["none" if whole is None else "some"] += 1
            outcomes["open"] += whole is not None and None in [rest for _, _, _, rest in expected]
            if whole is not None:
                least = min(price + rest for start, _, price, rest in expected if start == 0 and rest is not None)
                self.assertEqual(least, whole[0])
        self.assertGreater(min(outcomes.values()), 10, outcomes)

    def test_rivers_against_a_plain_search(self):
        source = random.Random(521)
        parted = 0
        for _ in range(300):
            row = random_row(source, source.randint(4, 8), 4)
            measure = Measure(source.randint(9, 16), align=source.choice(["left", "both"]), river=1, loose=9)
            expected = PlainRow(row, measure).certificate()
            self.assertEqual(line_certificate(row, measure), expected)
            free = Measure(measure.width, align=measure.align, loose=9)
            parted += expected != line_certificate(row, free)
        self.assertGreater(parted, 50)

    def test_long_rows(self):
        source = random.Random(522)
        answers = {True: 0, False: 0}
        for number in range(60):
            many, river = (source.randint(20, 40), source.randint(1, 3)) if number % 2 else (100, 0)
            row = random_row(source, many)
            measure = Measure(source.randint(40, 90), align=source.choice(["both", "left"]), river=river, loose=9)
            found = line_certificate(row, measure)
            self.assertEqual(found, sorted(found, key=lambda told: told[:2]))
            sums = [price + rest for start, _, price, rest in found if start == 0 and rest is not None]
            answers[bool(sums)] += 1
            if sums:
                self.assertEqual(min(sums), break_lines(row, measure)[0])
            else:
                self.assertRaises(Blocked, break_lines, row, measure)
        self.assertGreater(min(answers.values()), 3, answers)


if __name__ == "__main__":
    unittest.main()
