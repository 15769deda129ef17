"""Points 54 and 56 to 59: the possible pages from a state."""

import random
import unittest

from stylepages.pages.frame import Frame
from stylepages.pages.options import page_options
from tests.plain_pages import PlainPages, random_frame, random_galley

START = (0, 0, ())


def line(height, space=0, cut=True, notes=(), floats=()):
    return (height, space, cut, notes, floats)


class OptionsTest(unittest.TestCase):
    def ways(self, galley, frame, state=START):
        """Return the first three items of the pages."""
        return [page[:3] for page in page_options(tuple(galley), frame, state)]

    def pages(self, galley, frame, state=START):
        return page_options(tuple(galley), frame, state)

    def test_plain_lines(self):
        lines = [line(10)] * 3
        self.assertEqual(self.pages(lines, Frame(25)), [
            (1, 0, 1, 225, (1, 0, ())), (2, 0, 2, 25, (2, 0, ())),
        ])
        self.assertEqual(self.pages(lines, Frame(25), (2, 0, ())), [(3, 0, 3, 0, (3, 0, ()))])
        self.assertEqual(self.ways(lines, Frame(30)), [(1, 0, 1), (2, 0, 2), (3, 0, 3)])
        self.assertEqual(self.ways(lines, Frame(29)), [(1, 0, 1), (2, 0, 2)])
        self.assertEqual(self.ways(lines, Frame(10)), [(1, 0, 1)])
        self.assertEqual(self.ways(lines, Frame(9)), [])

    def test_the_end_state(self):
        self.assertEqual(self.pages([line(10)] * 3, Frame(25), (3, 0, ())), [])
        self.assertEqual(self.pages([line(10, floats=(5,))], Frame(25), (1, 1, ())), [])
        self.assertEqual(self.pages([], Frame(25)), [])

    def test_kinds_of_values(self):
        pages = self.pages([line(10, floats=(5,))] * 2, Frame(25))
        self.assertIsInstance(pages, list)
        for page in pages:
            self.assertIsInstance(page, tuple)
            self.assertIsInstance(page[4], tuple)
            self.assertIsInstance(page[4][2], tuple)

    def test_spaces(self):
        lines = [line(10, 7), line(10, 5), line(10, 5)]
        self.assertEqual(self.pages(lines, Frame(25)), [(1, 0, 1, 225, (1, 0, ())), (2, 0, 2, 0, (2, 0, ()))])
        self.assertEqual(self.ways(lines, Frame(24)), [(1, 0, 1)])
        self.assertEqual(self.pages(lines, Frame(25), (1, 0, ()))[1], (3, 0, 3, 0, (3, 0, ())))

    def test_cuts(self):
        lines = [line(10), line(10, cut=False), line(10), line(10, cut=False)]
        self.assertEqual(self.ways(lines, Frame(99)), [(2, 0, 2), (4, 0, 4)])
        self.assertEqual(self.ways(lines, Frame(39)), [(2, 0, 2)])
        self.assertEqual(self.ways(lines, Frame(19)), [])
        self.assertEqual(self.ways([line(10, cut=False)], Frame(19)), [(1, 0, 1)])

    def test_notes(self):
        lines = [line(10, notes=(3, 4)), line(10), line(10, notes=(5,))]
        self.assertEqual(self.pages(lines, Frame(40)), [
            (1, 0, 1, 19 * 19, (1, 0, ())), (2, 0, 2, 81, (2, 0, ())),
        ])
        self.assertEqual(self.ways(lines, Frame(46)), [(1, 0, 1), (2, 0, 2), (3, 0, 3)])
        self.assertEqual(self.ways(lines, Frame(45)), [(1, 0, 1), (2, 0, 2)])
        self.assertEqual(self.ways(lines, Frame(45, rule=3)), [(1, 0, 1), (2, 0, 2), (3, 0, 3)])
        self.assertEqual(self.pages(lines, Frame(40, rule=200), (1, 0, ())), [(2, 0, 2, 900, (2, 0, ()))])
        self.assertEqual(self.ways([line(10, notes=(3,))], Frame(16)), [])
        self.assertEqual(self.ways([line(10, notes=(3,))], Frame(17)), [(1, 0, 1)])

    def test_floats_wait_for_their_mark_lines(self):
        lines = [line(10), line(10, floats=(5,)), line(10)]
        self.assertEqual(self.ways(lines, Frame(99)), [(1, 0, 1), (2, 0, 2), (2, 1, 2), (3, 0, 3), (3, 1, 3)])
        self.assertEqual(self.ways(lines, Frame(99, wait=0)), [(1, 0, 1), (2, 1, 2), (3, 1, 3)])

    def test_the_room_of_floats(self):
        lines = [line(10, floats=(5, 6)), line(10)]
        self.assertEqual(self.ways(lines, Frame(25)), [(1, 0, 1), (1, 1, 1), (1, 2, 1), (2, 0, 2)])
        self.assertEqual(self.ways(lines, Frame(35)), [(1, 0, 1), (1, 1, 1), (1, 2, 1), (2, 0, 2), (2, 1, 2), (2, 2, 2)])
        self.assertEqual(self.ways(lines, Frame(34))[-2:], [(2, 0, 2), (2, 1, 2)])
        self.assertEqual(self.ways(lines, Frame(34, under=3))[-1:], [(2, 2, 2)])
        self.assertEqual(self.ways(lines, Frame(15, under=0)), [(1, 0, 1), (1, 1, 1)])

    def test_pages_of_floats_alone(self):
        lines = [line(10, floats=(5, 6)), line(10)]
        self.assertEqual(self.pages(lines, Frame(20, wait=2), (1, 0, (1, 1)))[:3], [
            (1, 1, 1, 11 * 11 + 50, (1, 1, (2,))), (1, 2, 1, 25, (1, 2, ())), (2, 0, 2, 200, (2, 0, (2, 2))),
        ])
        self.assertEqual(self.pages(lines, Frame(8), (2, 0, (1, 1))), [])
        self.assertEqual(self.pages(lines, Frame(10), (2, 1, (1,))), [(2, 2, 2, 0, (2, 2, ()))])
        self.assertEqual(self.pages(lines, Frame(9), (2, 1, (1,))), [])

    def test_ages(self):
        lines = [line(10, floats=(5,)), line(10, floats=(5, 6)), line(10), line(10)]
        self.assertEqual(self.pages(lines, Frame(20, wait=3, late=7), (1, 0, (1,))), [
            (1, 1, 1, 121, (1, 1, ())),
            (2, 0, 2, 100 + 21, (2, 0, (2, 1, 1))), (2, 1, 2, 1 + 14, (2, 1, (1, 1))),
            (3, 0, 3, 21, (3, 0, (2, 1, 1))),
        ])

    def test_ages_at_the_limit(self):
        lines = [line(10, floats=(5,)), line(10), line(10)]
        for wait in (1, 2, 3):
            frame = Frame(99, wait=wait)
            self.assertEqual(self.ways(lines, frame, (1, 0, (wait,))), [(1, 1, 1), (2, 1, 2), (3, 1, 3)])
            self.assertEqual(self.ways(lines, frame)[0], (1, 0, 1))
        for wait in (2, 3):
            self.assertEqual(
                self.ways(lines, Frame(99, wait=wait), (1, 0, (wait - 1,))),
                [(1, 1, 1), (2, 0, 2), (2, 1, 2), (3, 0, 3), (3, 1, 3)],
            )
        self.assertEqual(self.ways(lines, Frame(99, wait=0)), [(1, 1, 1), (2, 1, 2), (3, 1, 3)])

    def test_prices_with_one_column(self):
        lines = [line(10, floats=(8,)), line(10)]
        self.assertEqual([page[3] for page in self.pages(lines, Frame(25, late=3, uneven=99))], [225 + 3, 9, 25 + 3])
        self.assertEqual([page[3] for page in self.pages(lines, Frame(33))], [23 * 23 + 50, 121, 169 + 50, 0])

    def test_no_slack_at_the_end(self):
        self.assertEqual(self.pages([line(10)], Frame(5000)), [(1, 0, 1, 0, (1, 0, ()))])
        self.assertEqual(self.pages([line(10, floats=(3,))], Frame(20)), [
            (1, 0, 1, 150, (1, 0, (1,))), (1, 1, 1, 0, (1, 1, ())),
        ])
        self.assertEqual(self.pages([line(10), line(4)], Frame(20, columns=2)), [
            (1, 0, 1, 100 + 10, (1, 0, ())), (2, 0, 1, 6, (2, 0, ())), (2, 0, 2, 14, (2, 0, ())),
        ])

    def test_splits(self):
        lines = [line(10), line(10), line(10, cut=False), line(10)]
        frame = Frame(30, columns=2, uneven=3)
        self.assertEqual(self.pages(lines, frame), [
            (1, 0, 1, 400 + 30, (1, 0, ())),
            (3, 0, 1, 100 + 30, (3, 0, ())), (3, 0, 3, 90, (3, 0, ())),
            (4, 0, 1, 60, (4, 0, ())), (4, 0, 3, 60, (4, 0, ())),
        ])
        self.assertEqual(self.ways(lines, Frame(20, columns=2)), [(1, 0, 1), (3, 0, 1)])

    def test_spaces_of_columns(self):
        lines = [line(10, 9), line(10, 9), line(10, 9)]
        self.assertEqual(self.pages(lines, Frame(29, columns=2, uneven=2)), [
            (1, 0, 1, 361 + 20, (1, 0, ())), (2, 0, 1, 361, (2, 0, ())), (2, 0, 2, 58, (2, 0, ())),
            (3, 0, 1, 38, (3, 0, ())), (3, 0, 2, 38, (3, 0, ())),
        ])

    def test_two_columns_of_floats_alone(self):
        lines = [line(10, floats=(5,)), line(10)]
        frame = Frame(20, columns=2, wait=1)
        self.assertEqual(self.pages(lines, frame, (1, 0, (1,)))[0], (1, 1, 1, 121, (1, 1, ())))
        self.assertEqual(self.pages(lines, frame, (2, 0, (1,))), [(2, 1, 2, 0, (2, 1, ()))])

    def test_notes_and_floats_over_two_columns(self):
        lines = [line(10, notes=(3,)), line(10, floats=(4,)), line(10)]
        frame = Frame(25, columns=2, rule=2, under=1, late=0)
        self.assertEqual(self.pages(lines, frame, START), [
            (1, 0, 1, 110, (1, 0, ())),
            (2, 0, 1, 100, (2, 0, (1,))), (2, 0, 2, 20, (2, 0, (1,))), (2, 1, 1, 25, (2, 1, ())),
            (3, 0, 1, 10, (3, 0, (1,))), (3, 0, 2, 10, (3, 0, (1,))),
        ])

    def test_arguments_stay(self):
        frame = Frame(25, columns=2)
        self.pages([line(10)] * 3, frame)
        self.assertEqual(frame.key(), Frame(25, columns=2).key())

    def test_against_a_plain_reading(self):
        source = random.Random(58)
        many = 0
        for _ in range(500):
            galley, frame = random_galley(source, source.randint(0, 7), source.randint(0, 4)), random_frame(source)
            plain = PlainPages(galley, frame)
            for state, pages in plain.options.items():
                self.assertEqual(page_options(galley, frame, state), pages)
                many += len(pages)
        self.assertGreater(many, 5000)


if __name__ == "__main__":
    unittest.main()
