"""Point 61: the certificate of a galley."""

import random
import unittest

from stylepages.errors import NoPages
from stylepages.pages.breaking import break_pages
from stylepages.pages.certificate import page_certificate
from stylepages.pages.frame import Frame
from tests.plain_pages import PlainPages, random_frame, random_galley
from tests.test_options import line


class PageCertificateTest(unittest.TestCase):
    def check(self, lines, frame, *rows):
        self.assertEqual(page_certificate(tuple(lines), frame), list(rows))

    def test_no_lines(self):
        self.check([], Frame(1), (0, 0, (), 0))
        self.check([], Frame(5000, columns=2, wait=3), (0, 0, (), 0))

    def test_kinds_of_values(self):
        found = page_certificate((line(10, floats=(5,)),) * 2, Frame(20))
        self.assertIsInstance(found, list)
        for row in found:
            self.assertIsInstance(row, tuple)
            self.assertIsInstance(row[2], tuple)

    def test_plain_lines(self):
        self.check([line(10)] * 3, Frame(20), (0, 0, (), 0), (1, 0, (), 0), (2, 0, (), 0), (3, 0, (), 0))
        self.check(
            [line(10)] * 3, Frame(15), (0, 0, (), 50), (1, 0, (), 25), (2, 0, (), 0), (3, 0, (), 0),
        )

    def test_no_pages_lead_on(self):
        self.check([line(10)], Frame(9), (0, 0, (), None))
        self.check([line(10), line(10), line(30)], Frame(20), (0, 0, (), None), (1, 0, (), None), (2, 0, (), None))
        # With the whole galley set, the float still has to stand somewhere.
        self.check([line(10, floats=(50,))], Frame(20), (0, 0, (), None), (1, 0, (1,), None))

    def test_the_order_of_the_states(self):
        lines = [line(10, floats=(5,)), line(10)]
        self.check(
            lines, Frame(18, wait=2),
            (0, 0, (), 195), (1, 0, (1,), 81), (1, 1, (), 0), (2, 0, (2,), 0), (2, 1, (), 0),
        )
        lines = [line(10), line(10, floats=(5,)), line(10)]
        found = page_certificate(tuple(lines), Frame(20, wait=3))
        self.assertEqual([row[:3] for row in found], [
            (0, 0, ()), (1, 0, ()), (2, 0, (1,)), (2, 1, ()), (3, 0, (1,)), (3, 0, (2,)), (3, 1, ()),
        ])

    def test_a_state_from_which_no_pages_lead_on(self):
        # With both lines on one page, both floats would have to stand on the next one.
        lines = [line(10, floats=(40,)), line(10, floats=(40,))]
        one = 34 * 34 + 50
        self.check(
            lines, Frame(44),
            (0, 0, (), 2 * one), (1, 0, (1,), one), (1, 1, (), one), (2, 0, (1, 1), None), (2, 1, (1,), 0), (2, 2, (), 0),
        )

    def test_arguments_stay(self):
        frame = Frame(25, columns=2)
        page_certificate((line(10),) * 3, frame)
        self.assertEqual(frame.key(), Frame(25, columns=2).key())

    def test_against_a_plain_search(self):
        source = random.Random(610)
        outcomes = {"pages": 0, "none": 0, "dead": 0}
        for _ in range(500):
            galley = random_galley(source, source.randint(0, 6), source.randint(0, 3), 9)
            frame = random_frame(source, 30)
            expected = PlainPages(galley, frame).certificate()
            self.assertEqual(page_certificate(galley, frame), expected)
            rests = [rest for _, _, _, rest in expected]
            outcomes["none" if rests[0] is None else "pages"] += 1
            outcomes["dead"] += rests[0] is not None and None in rests
        self.assertGreater(min(outcomes.values()), 3, outcomes)

    def test_against_the_pages(self):
        source = random.Random(611)
        outcomes = {True: 0, False: 0}
        for number in range(60):
            galley = random_galley(source, source.randint(10, 40), source.randint(0, 6), 9)
            frame = Frame(source.randint(20, 90), columns=1 + number % 2, wait=source.randint(0, 3))
            found = page_certificate(galley, frame)
            self.assertEqual(found, sorted(found, key=lambda row: row[:3]))
            self.assertEqual(len(found), len({row[:3] for row in found}))
            self.assertEqual(found[0][:3], (0, 0, ()))
            outcomes[found[0][3] is None] += 1
            if found[0][3] is None:
                with self.assertRaises(NoPages) as caught:
                    break_pages(galley, frame)
                self.assertEqual(caught.exception.lines, max(row[0] for row in found))
            else:
                self.assertEqual(found[0][3], break_pages(galley, frame)[0])
                self.assertEqual(found[-1][1:], (sum(len(row[4]) for row in galley), (), 0))
        self.assertGreater(min(outcomes.values()), 5, outcomes)


if __name__ == "__main__":
    unittest.main()
