"""Point 32: the outlines of an ink."""

import random
import unittest

from stylepages.faces.ink import Ink, ink_of
from stylepages.faces.rings import outlines_of
from stylepages.faces.strokes import corners, unit_steps


def rows_of(picture):
    """Return the ink of a picture; its lowest row is the last one and stands at y 0."""
    rows = list(reversed(picture.split()))
    return Ink([(x, y) for y, row in enumerate(rows) for x, sign in enumerate(row) if sign == "#"])


def border_sides(cells):
    """Return the set of the border sides (corner, step) with the inked cell on their left."""
    cells = set(cells)
    sides = set()
    for x, y in cells:
        if (x, y - 1) not in cells:
            sides.add(((x, y), (1, 0)))
        if (x + 1, y) not in cells:
            sides.add(((x + 1, y), (0, 1)))
        if (x, y + 1) not in cells:
            sides.add(((x + 1, y + 1), (-1, 0)))
        if (x - 1, y) not in cells:
            sides.add(((x, y + 1), (0, -1)))
    return sides


def sides_of(outline):
    """Return the list of the sides (corner, step) of an outline."""
    steps = [step for stroke in outline[2] for step in unit_steps(stroke)]
    return list(zip(corners(outline), steps))


class RingsTest(unittest.TestCase):
    def check(self, ink):
        """Each demand of the point in turn; together they leave one answer only."""
        outlines = outlines_of(ink)
        self.assertIsInstance(outlines, tuple)
        walked = [side for outline in outlines for side in sides_of(outline)]
        self.assertEqual(len(walked), len(set(walked)))
        self.assertEqual(set(walked), border_sides(ink.cells()))
        for outline in outlines:
            path = corners(outline)
            self.assertEqual(path[0], path[-1])
            self.assertEqual(path[0], min(path, key=lambda corner: (corner[1], corner[0])))
            strokes = outline[2]
            self.assertIsInstance(strokes, tuple)
            for word, dx, dy in strokes:
                self.assertEqual(word, "line")
                self.assertTrue((dx == 0) != (dy == 0))
            ring = sides_of(outline)
            for (corner, step), (place, follower) in zip(ring, ring[1:] + ring[:1]):
                choices = [found for spot, found in border_sides(ink.cells()) if spot == place]
                left = (-step[1], step[0])
                self.assertEqual(follower, left if len(choices) == 2 else choices[0])
            for before, behind in zip(strokes, strokes[1:] + strokes[:1]):
                self.assertNotEqual(before[1] == 0, behind[1] == 0)
        firsts = [(y, x) for x, y, _ in outlines]
        self.assertEqual(firsts, sorted(firsts))
        self.assertEqual(ink_of(outlines).cells(), ink.cells())

    def test_no_cells(self):
        self.assertEqual(outlines_of(Ink([])), ())
        self.assertEqual(outlines_of(ink_of(())), ())

    def test_one_cell(self):
        square = (("line", 1, 0), ("line", 0, 1), ("line", -1, 0), ("line", 0, -1))
        self.assertEqual(outlines_of(Ink([(3, -2)])), ((3, -2, square),))

    def test_two_cells_that_meet_at_a_corner(self):
        square = (("line", 1, 0), ("line", 0, 1), ("line", -1, 0), ("line", 0, -1))
        self.assertEqual(outlines_of(Ink([(0, 0), (1, 1)])), ((0, 0, square), (1, 1, square)))
        self.assertEqual(outlines_of(Ink([(1, 0), (0, 1)])), ((1, 0, square), (0, 1, square)))

    def test_a_ring_that_meets_itself(self):
        self.check(rows_of("### #.# ##."))
        self.check(rows_of("### #.# .##"))
        self.check(rows_of(".## #.# ###"))
        self.check(rows_of("##. #.# ###"))
        self.assertEqual(len(outlines_of(rows_of("### #.# ##."))), 1)

    def test_a_hole(self):
        ring = (
            (0, 0, (("line", 3, 0), ("line", 0, 3), ("line", -3, 0), ("line", 0, -3))),
            (1, 1, (("line", 0, 1), ("line", 1, 0), ("line", 0, -1), ("line", -1, 0))),
        )
        self.assertEqual(outlines_of(rows_of("### #.# ###")), ring)

    def test_rings_in_rings(self):
        ink = rows_of("####### #.....# #.###.# #.#.#.# #.###.# #.....# #######")
        self.check(ink)
        self.assertEqual([(x, y) for x, y, _ in outlines_of(ink)], [(0, 0), (1, 1), (2, 2), (3, 3)])

    def test_order(self):
        ink = rows_of("#.#.# ..... #.#.#")
        self.assertEqual([(x, y) for x, y, _ in outlines_of(ink)], [(0, 0), (2, 0), (4, 0), (0, 2), (2, 2), (4, 2)])
        self.check(ink)
        self.check(rows_of("..#.. .###. ##.## .###. ..#.."))

    def test_long_lines(self):
        outlines = outlines_of(Ink([(x, 5) for x in range(-100, 150)]))
        sides = (("line", 250, 0), ("line", 0, 1), ("line", -250, 0), ("line", 0, -1))
        self.assertEqual(outlines, ((-100, 5, sides),))
        self.assertEqual(len(ink_of(outlines)), 250)

    def test_many_lines(self):
        ink = Ink([(x, y) for x in range(40) for y in range(x // 2 + 1)])
        outlines = outlines_of(ink)
        self.assertEqual(len(outlines), 1)
        self.assertGreater(len(outlines[0][2]), 12)
        self.check(ink)

    def test_far_out(self):
        self.check(Ink([(1000, 1000), (-1000, -1000), (999, 1000), (-1000, 1000)]))

    def test_drawn_inks(self):
        arc = (("flat", 5, 5), ("steep", -5, 5), ("flat", -5, -5), ("steep", 5, -5))
        inner = (("flat", 3, 3), ("steep", -3, 3), ("flat", -3, -3), ("steep", 3, -3))
        self.check(ink_of(((10, 0, arc), (10, 2, inner))))
        self.check(ink_of(((10, 0, arc), (12, 3, arc), (0, 0, (("line", 20, 7), ("line", -13, 5), ("line", -7, -12))))))

    def test_random_inks(self):
        source = random.Random(32)
        for _ in range(200):
            width, height = source.randint(1, 7), source.randint(1, 7)
            thick = source.random()
            cells = [(x - 3, y - 3) for x in range(width) for y in range(height) if source.random() < thick]
            self.check(Ink(cells))


if __name__ == "__main__":
    unittest.main()
