"""Point 60: the pages of a galley, found from the end."""

import random
import unittest

from stylepages.errors import NoPages
from stylepages.pages.breaking import break_pages
from stylepages.pages.frame import Frame
from tests.plain_pages import PlainPages, plain_page, random_frame, random_galley
from tests.test_options import line


def answer(galley, frame):
    """Return the price and the pages, or the attribute of `NoPages`."""
    try:
        return break_pages(galley, frame)
    except NoPages as error:
        return error.lines


class PagesTest(unittest.TestCase):
    def check(self, lines, frame, price, pages):
        self.assertEqual(break_pages(tuple(lines), frame), (price, tuple(pages)))

    def no_pages(self, lines, frame, many):
        with self.assertRaises(NoPages) as caught:
            break_pages(tuple(lines), frame)
        self.assertEqual(caught.exception.lines, many)

    def test_the_example(self):
        self.check([line(10)] * 3, Frame(20), 0, [(0, 2, 0, 0, 2), (2, 3, 0, 0, 3)])

    def test_no_lines(self):
        self.check([], Frame(1), 0, [])
        self.check([], Frame(5000, columns=2, wait=3), 0, [])

    def test_kinds_of_values(self):
        found = break_pages((line(10),) * 3, Frame(20))
        self.assertIsInstance(found, tuple)
        self.assertIsInstance(found[1], tuple)
        self.assertIsInstance(break_pages((), Frame(20))[1], tuple)

    def test_the_least_sum(self):
        # A full first page would leave 8 free on the second one.
        lines = [line(10), line(10), line(12), line(18)]
        self.check(lines, Frame(30), 100, [(0, 2, 0, 0, 2), (2, 4, 0, 0, 4)])
        uneven = [line(10), line(10), line(10), line(20), line(30)]
        self.check(uneven, Frame(30), 100, [(0, 2, 0, 0, 2), (2, 4, 0, 0, 4), (4, 5, 0, 0, 5)])

    def test_equal_prices_take_fewer_pages(self):
        self.check([line(10), line(1)], Frame(11), 0, [(0, 2, 0, 0, 2)])
        self.check([line(10), line(10)], Frame(10), 0, [(0, 1, 0, 0, 1), (1, 2, 0, 0, 2)])
        # Two pages with one line each would be full and free of cost, too.
        self.check([line(10), line(10)], Frame(10, columns=2, uneven=0), 0, [(0, 2, 0, 0, 1)])
        self.check([line(6, floats=(10,))], Frame(20, late=0), 0, [(0, 1, 0, 1, 1)])
        self.check([line(20, floats=(10,)), line(6)], Frame(20, late=0), 0, [(0, 1, 0, 0, 1), (1, 2, 0, 1, 2)])

    def test_equal_prices_and_numbers_take_the_least_triples(self):
        self.check([line(10)] * 3, Frame(25), 25, [(0, 2, 0, 0, 2), (2, 3, 0, 0, 3)])
        lines = [line(1), line(2), line(1), line(2)]
        self.check(lines, Frame(5, columns=2, uneven=0), 0, [(0, 4, 0, 0, 1)])
        self.check(lines, Frame(4, columns=2, uneven=0), 0, [(0, 4, 0, 0, 2)])
        self.check([line(10)] * 5, Frame(20, columns=2), 10, [(0, 3, 0, 0, 1), (3, 5, 0, 0, 4)])
        floats = [line(10), line(10, floats=(10, 10)), line(10)]
        self.check(floats, Frame(20, under=0, late=0), 0, [
            (0, 2, 0, 0, 2), (2, 2, 0, 2, 2), (2, 3, 2, 2, 3),
        ])

    def test_floats(self):
        lines = [line(10), line(10, floats=(16,)), line(10), line(10)]
        self.check(lines, Frame(30), 50, [(0, 3, 0, 0, 3), (3, 4, 0, 1, 4)])
        self.check(lines, Frame(30, late=1000), 400, [(0, 1, 0, 0, 1), (1, 2, 0, 1, 2), (2, 4, 1, 1, 4)])
        self.check(lines, Frame(30, wait=0), 400, [(0, 1, 0, 0, 1), (1, 2, 0, 1, 2), (2, 4, 1, 1, 4)])

    def test_pages_of_floats_alone(self):
        lines = [line(10, floats=(20,))]
        self.check(lines, Frame(24), 14 * 14 + 50, [(0, 1, 0, 0, 1), (1, 1, 0, 1, 1)])
        self.check(lines, Frame(24, columns=2), 14 * 14 + 50 + 10, [(0, 1, 0, 0, 1), (1, 1, 0, 1, 1)])

    def test_two_columns(self):
        lines = [line(10)] * 5
        self.check(lines, Frame(30, columns=2), 10, [(0, 5, 0, 0, 2)])
        self.check(lines, Frame(49, columns=2, uneven=0), 0, [(0, 5, 0, 0, 1)])
        self.check(lines[:4], Frame(10, columns=2), 0, [(0, 2, 0, 0, 1), (2, 4, 0, 0, 3)])

    def test_no_pages(self):
        self.no_pages([line(10)], Frame(9), 0)
        self.no_pages([line(10)] * 3 + [line(30)], Frame(20), 3)
        self.no_pages([line(10), line(10), line(30), line(10)], Frame(20), 2)
        self.no_pages([line(10), line(10, cut=False), line(10, cut=False)], Frame(20), 0)
        self.no_pages([line(10), line(10), line(10, cut=False)], Frame(10), 1)
        self.no_pages([line(10, notes=(7,))], Frame(20), 0)

    def test_no_pages_for_a_float(self):
        lines = [line(10), line(10, floats=(50,)), line(10)]
        self.no_pages(lines, Frame(20, wait=0), 1)
        self.no_pages(lines, Frame(20, wait=1), 3)
        self.no_pages([line(10, floats=(50,))] + [line(10)] * 9, Frame(20, wait=3), 6)
        self.no_pages([line(10, floats=(50,))], Frame(20, wait=3), 1)

    def test_arguments_stay(self):
        frame = Frame(20)
        break_pages((line(10),) * 3, frame)
        self.assertEqual(frame.key(), Frame(20).key())

    def test_against_a_plain_search(self):
        source = random.Random(60)
        fails, longest = 0, 0
        for _ in range(700):
            galley = random_galley(source, source.randint(0, 6), source.randint(0, 3), 9)
            frame = random_frame(source, 30)
            expected = PlainPages(galley, frame).best()
            self.assertEqual(answer(galley, frame), expected)
            if isinstance(expected, int):
                fails += 1
            else:
                longest = max(longest, len(expected[1]))
        self.assertGreater(fails, 50)
        self.assertGreater(longest, 3)

    def test_ties_against_a_plain_search(self):
        source = random.Random(61)
        for _ in range(300):
            galley = tuple(
                line(5, source.choice([0, 5]), True, (), (5,) * source.choice([0, 0, 1]))
                for _ in range(source.randint(1, 5))
            )
            frame = Frame(source.choice([10, 15, 20]), columns=source.randint(1, 2), under=0, late=0, uneven=0, wait=3)
            self.assertEqual(answer(galley, frame), PlainPages(galley, frame).best())

    def test_long_galleys(self):
        source = random.Random(62)
        for columns, height, wait in ((1, 100, 1), (2, 100, 3), (1, 400, 3), (2, 900, 1), (2, 80, 2)):
            galley = random_galley(source, 60, 6, 9)
            frame = Frame(height, columns=columns, wait=wait)
            found = answer(galley, frame)
            self.assertIsInstance(found, tuple)
            state, total = (0, 0, ()), 0
            for first, end, floats, floats_end, split in found[1]:
                self.assertEqual((first, floats), state[:2])
                price, state = plain_page(galley, frame, state, end, floats_end, split)
                total += price
            self.assertEqual((total, state), (found[0], (60, 6, ())))

    def test_a_long_galley_of_one_height(self):
        lines = [line(10)] * 60
        found = break_pages(tuple(lines), Frame(100))
        self.assertEqual(found, (0, tuple((at, at + 10, 0, 0, at + 10) for at in range(0, 60, 10))))


if __name__ == "__main__":
    unittest.main()
