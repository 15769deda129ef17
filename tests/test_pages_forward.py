"""Point 60: the pages of a galley, found from the beginning, and the fewest pages."""

import random
import unittest

from stylepages.errors import NoPages
from stylepages.pages.breaking import break_pages
from stylepages.pages.forward import fewest_pages, pages_forward
from stylepages.pages.frame import Frame
from tests.plain_pages import PlainPages, random_frame, random_galley
from tests.test_options import line


def answer(function, galley, frame):
    """Return what the function returns, or the attribute of `NoPages` in a list."""
    try:
        return function(galley, frame)
    except NoPages as error:
        return [error.lines]


class ForwardTest(unittest.TestCase):
    def check(self, lines, frame, price, pages):
        self.assertEqual(pages_forward(tuple(lines), frame), (price, tuple(pages)))

    def no_pages(self, lines, frame, many):
        for function in (pages_forward, fewest_pages):
            with self.assertRaises(NoPages) as caught:
                function(tuple(lines), frame)
            self.assertEqual(caught.exception.lines, many)

    def test_the_example(self):
        lines = ((10, 0, True, (), ()),) * 3
        self.check(lines, Frame(20), 0, [(0, 2, 0, 0, 2), (2, 3, 0, 0, 3)])

    def test_no_lines(self):
        self.check([], Frame(1), 0, [])
        self.check([], Frame(5000, columns=2, wait=3), 0, [])

    def test_kinds_of_values(self):
        found = pages_forward((line(10),) * 3, Frame(20))
        self.assertIsInstance(found, tuple)
        self.assertIsInstance(found[1], tuple)
        for page in found[1]:
            self.assertIsInstance(page, tuple)
        self.assertIsInstance(pages_forward((), Frame(20))[1], tuple)

    def test_the_least_sum(self):
        # A full first page would leave 8 free on the second one.
        lines = [line(10), line(10), line(12), line(18)]
        self.check(lines, Frame(30), 100, [(0, 2, 0, 0, 2), (2, 4, 0, 0, 4)])

    def test_equal_prices_take_fewer_pages(self):
        self.check([line(10), line(1)], Frame(11), 0, [(0, 2, 0, 0, 2)])
        # Two pages with one line each would be full and free of cost, too.
        self.check([line(10), line(10)], Frame(10, columns=2, uneven=0), 0, [(0, 2, 0, 0, 1)])
        self.check([line(20, floats=(10,)), line(6)], Frame(20, late=0), 0, [(0, 1, 0, 0, 1), (1, 2, 0, 1, 2)])

    def test_equal_prices_and_numbers_take_the_least_triples(self):
        self.check([line(10)] * 3, Frame(25), 25, [(0, 2, 0, 0, 2), (2, 3, 0, 0, 3)])
        self.check([line(1), line(2), line(1), line(2)], Frame(5, columns=2, uneven=0), 0, [(0, 4, 0, 0, 1)])
        self.check([line(10)] * 5, Frame(20, columns=2), 10, [(0, 3, 0, 0, 1), (3, 5, 0, 0, 4)])
        # The float could as well stand on the page of the last line.
        floats = [line(20, floats=(10,)), line(10), line(10)]
        self.check(floats, Frame(20, under=0, late=0, wait=2), 0, [
            (0, 1, 0, 0, 1), (1, 2, 0, 1, 2), (2, 3, 1, 1, 3),
        ])

    def test_floats_and_columns(self):
        lines = [line(10), line(10, floats=(16,)), line(10), line(10)]
        self.check(lines, Frame(30), 50, [(0, 3, 0, 0, 3), (3, 4, 0, 1, 4)])
        self.check(lines, Frame(30, wait=0), 400, [(0, 1, 0, 0, 1), (1, 2, 0, 1, 2), (2, 4, 1, 1, 4)])
        alone = [line(10, floats=(20,))]
        self.check(alone, Frame(24, columns=2), 14 * 14 + 50 + 10, [(0, 1, 0, 0, 1), (1, 1, 0, 1, 1)])

    def test_no_pages(self):
        self.no_pages([line(10)], Frame(9), 0)
        self.no_pages([line(10)] * 3 + [line(30)], Frame(20), 3)
        self.no_pages([line(10), line(10), line(10, cut=False)], Frame(10), 1)
        self.no_pages([line(10, notes=(7,))], Frame(20), 0)
        self.no_pages([line(10, floats=(50,))] + [line(10)] * 9, Frame(20, wait=3), 6)
        # All lines can be set, but the float never.
        self.no_pages([line(10, floats=(50,))], Frame(20, wait=3), 1)

    def test_arguments_stay(self):
        frame = Frame(20)
        pages_forward((line(10),) * 3, frame)
        fewest_pages((line(10),) * 3, frame)
        self.assertEqual(frame.key(), Frame(20).key())

    def test_against_a_plain_search(self):
        source = random.Random(600)
        fails, longest = 0, 0
        for _ in range(500):
            galley = random_galley(source, source.randint(0, 6), source.randint(0, 3), 9)
            frame = random_frame(source, 30)
            plain = PlainPages(galley, frame)
            expected = plain.best()
            counts = [len(pages) for _, pages, _ in plain.rows()]
            if isinstance(expected, int):
                fails += 1
                expected = [expected]
                self.assertEqual(answer(fewest_pages, galley, frame), expected)
            else:
                longest = max(longest, len(expected[1]))
                self.assertEqual(fewest_pages(galley, frame), min(counts))
            self.assertEqual(answer(pages_forward, galley, frame), expected)
        self.assertGreater(fails, 40)
        self.assertGreater(longest, 3)

    def test_ties_against_a_plain_search(self):
        source = random.Random(601)
        for _ in range(300):
            galley = tuple(
                line(5, source.choice([0, 5]), True, (), (5,) * source.choice([0, 0, 1]))
                for _ in range(source.randint(1, 5))
            )
            frame = Frame(source.choice([10, 15, 20]), columns=source.randint(1, 2), under=0, late=0, uneven=0, wait=3)
            found = answer(pages_forward, galley, frame)
            expected = PlainPages(galley, frame).best()
            self.assertEqual(found, [expected] if isinstance(expected, int) else expected)

    def test_the_two_ways_agree(self):
        source = random.Random(602)
        outcomes = {}
        for number in range(160):
            columns, wait = 1 + number % 2, number // 2 % 4
            galley = random_galley(source, source.randint(8, 30), source.randint(0, 6), 9)
            frame = Frame(
                source.randint(18, 90), columns=columns, wait=wait, late=source.choice([0, 5, 50]),
                uneven=source.choice([0, 1, 7]),
            )
            found = answer(pages_forward, galley, frame)
            self.assertEqual(found, answer(break_pages, galley, frame))
            key = (columns, wait, isinstance(found, tuple))
            outcomes[key] = outcomes.get(key, 0) + 1
        for columns in (1, 2):
            for wait in range(4):
                self.assertGreater(outcomes.get((columns, wait, True), 0), 3, outcomes)

    def test_long_galleys(self):
        source = random.Random(603)
        for columns, height, wait in ((1, 100, 1), (2, 100, 3), (2, 900, 1)):
            galley = random_galley(source, 60, 6, 9)
            frame = Frame(height, columns=columns, wait=wait)
            self.assertEqual(answer(pages_forward, galley, frame), answer(break_pages, galley, frame))


class FewestTest(unittest.TestCase):
    def test_no_lines(self):
        self.assertEqual(fewest_pages((), Frame(1)), 0)

    def test_plain_lines(self):
        self.assertEqual(fewest_pages((line(10),) * 3, Frame(20)), 2)
        self.assertEqual(fewest_pages((line(10),) * 3, Frame(30)), 1)
        self.assertEqual(fewest_pages((line(10),) * 3, Frame(10)), 3)
        self.assertEqual(fewest_pages((line(10),) * 5, Frame(20, columns=2)), 2)

    def test_fewer_than_the_pages_of_least_price(self):
        galley = (line(3, floats=(1, 5)), line(6, 9))
        frame = Frame(10, columns=2, uneven=0)
        # One float with its line, the other one alone, then the last line: 2 * 2 + 50 and 1 * 1.
        pages = ((0, 1, 0, 1, 1), (1, 1, 1, 2, 1), (1, 2, 2, 2, 2))
        self.assertEqual(pages_forward(galley, frame), (55, pages))
        self.assertEqual(break_pages(galley, frame), (55, pages))
        # Both lines, then both floats, cost 4 * 4 + 100.
        self.assertEqual(fewest_pages(galley, frame), 2)
        galley = (line(2, notes=(4,), floats=(11,)), line(4, floats=(14,)), line(9, 9))
        frame = Frame(23, rule=2, under=0, wait=3, uneven=0)
        self.assertEqual(len(pages_forward(galley, frame)[1]), 3)
        self.assertEqual(fewest_pages(galley, frame), 2)


if __name__ == "__main__":
    unittest.main()
