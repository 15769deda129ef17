"""Point 55: the galley of paragraphs."""

import random
import unittest

from stylepages.pages.galley import make_galley

PLAIN = ((), ())


def paragraph(many, lead=12, least=1, keep="no", above=0, below=0):
    return ((PLAIN,) * many, lead, least, keep, above, below)


def plain_galley(paragraphs):
    """Point 55, line by line."""
    galley = []
    for number, (lines, lead, least, keep, above, below) in enumerate(paragraphs):
        before = paragraphs[number - 1] if number else None
        for r in range(len(lines)):
            if r == 0 and before is None:
                space, cut = 0, True
            elif r == 0:
                space = above if above > before[5] else before[5]
                cut = before[3] != "yes"
            else:
                space = 0
                cut = not (r < least or len(lines) - r < least)
            galley.append((lead, space, cut) + tuple(lines[r]))
    return tuple(galley)


class GalleyTest(unittest.TestCase):
    def cuts(self, *paragraphs):
        return [line[2] for line in make_galley(paragraphs)]

    def spaces(self, *paragraphs):
        return [line[1] for line in make_galley(paragraphs)]

    def test_no_paragraphs(self):
        self.assertEqual(make_galley(()), ())

    def test_kinds_of_values(self):
        galley = make_galley((paragraph(2), paragraph(1)))
        self.assertIsInstance(galley, tuple)
        for line in galley:
            self.assertIsInstance(line, tuple)
            self.assertIsInstance(line[2], bool)

    def test_one_paragraph(self):
        self.assertEqual(make_galley((paragraph(1, lead=7),)), ((7, 0, True, (), ()),))
        self.assertEqual(make_galley((paragraph(2, lead=7),)), ((7, 0, True, (), ()),) * 2)

    def test_heights(self):
        galley = make_galley((paragraph(2, lead=1), paragraph(1, lead=99), paragraph(1, lead=5)))
        self.assertEqual([line[0] for line in galley], [1, 1, 99, 5])

    def test_spaces(self):
        self.assertEqual(self.spaces(paragraph(2, above=9), paragraph(2)), [0, 0, 0, 0])
        self.assertEqual(self.spaces(paragraph(1, below=5), paragraph(1, above=3)), [0, 5])
        self.assertEqual(self.spaces(paragraph(1, below=3), paragraph(1, above=5)), [0, 5])
        self.assertEqual(self.spaces(paragraph(1, below=4), paragraph(1, above=4)), [0, 4])
        self.assertEqual(self.spaces(paragraph(2, below=4), paragraph(3), paragraph(1)), [0, 0, 4, 0, 0, 0])
        self.assertEqual(self.spaces(paragraph(1, above=99, below=99), paragraph(1)), [0, 99])

    def test_cuts_by_keep(self):
        self.assertEqual(self.cuts(paragraph(1, keep="yes")), [True])
        self.assertEqual(self.cuts(paragraph(1, keep="yes"), paragraph(1)), [True, False])
        self.assertEqual(self.cuts(paragraph(1), paragraph(1, keep="yes")), [True, True])
        self.assertEqual(
            self.cuts(paragraph(2, keep="yes"), paragraph(2, keep="yes"), paragraph(2)),
            [True, True, False, True, False, True],
        )

    def test_cuts_by_least(self):
        self.assertEqual(self.cuts(paragraph(4, least=1)), [True, True, True, True])
        self.assertEqual(self.cuts(paragraph(4, least=2)), [True, False, True, False])
        self.assertEqual(self.cuts(paragraph(3, least=2)), [True, False, False])
        self.assertEqual(self.cuts(paragraph(5, least=2)), [True, False, True, True, False])
        self.assertEqual(self.cuts(paragraph(6, least=3)), [True, False, False, True, False, False])
        self.assertEqual(self.cuts(paragraph(7, least=4)), [True] + [False] * 6)
        self.assertEqual(self.cuts(paragraph(8, least=4)), [True] + [False] * 3 + [True] + [False] * 3)
        self.assertEqual(self.cuts(paragraph(1, least=4), paragraph(1, least=4)), [True, True])

    def test_least_and_keep_of_neighbours(self):
        # Only the paragraph of the line itself says how many lines stay together.
        self.assertEqual(self.cuts(paragraph(2, least=2), paragraph(2, least=1)), [True, False, True, True])
        self.assertEqual(self.cuts(paragraph(2, least=1, keep="yes"), paragraph(2, least=2)), [True, True, False, False])

    def test_notes_and_floats(self):
        lines = (((3, 4), ()), ((), (5,)), PLAIN)
        galley = make_galley(((lines, 12, 1, "no", 0, 0), ((((1,), (2, 2)),), 9, 1, "no", 0, 0)))
        self.assertEqual(galley, (
            (12, 0, True, (3, 4), ()), (12, 0, True, (), (5,)), (12, 0, True, (), ()), (9, 0, True, (1,), (2, 2)),
        ))

    def test_against_a_plain_reading(self):
        source = random.Random(55)
        for _ in range(300):
            paragraphs = tuple(
                (
                    tuple(
                        (tuple(source.sample(range(1, 9), source.choice([0, 0, 1, 2]))), (4,) * source.choice([0, 0, 1]))
                        for _ in range(source.randint(1, 7))
                    ),
                    source.randint(1, 20), source.randint(1, 4), source.choice(["yes", "no"]),
                    source.choice([0, 3, 9]), source.choice([0, 4, 8]),
                )
                for _ in range(source.randint(0, 4))
            )
            self.assertEqual(make_galley(paragraphs), plain_galley(paragraphs))


if __name__ == "__main__":
    unittest.main()
