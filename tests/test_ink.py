"""Points 30 and 31: ink."""

import random
import unittest

from stylepages.errors import OpenOutline
from stylepages.faces.ink import Ink, ink_of
from stylepages.faces.strokes import corners


def in_order(cells):
    return sorted(set(cells), key=lambda cell: (cell[1], cell[0]))


def box(x, y, width, height):
    return (x, y, (("line", width, 0), ("line", 0, height), ("line", -width, 0), ("line", 0, -height)))


def plain_ink(outlines):
    """Point 30, cell by cell."""
    steps = []
    for outline in outlines:
        path = corners(outline)
        steps += [(min(y, v), x) for (x, y), (u, v) in zip(path, path[1:]) if y != v]
    found = []
    for y in range(-45, 65):
        for x in range(-45, 65):
            if sum(1 for row, u in steps if row == y and u <= x) % 2:
                found.append((x, y))
    return found


class InkTest(unittest.TestCase):
    def test_order_and_duplicates(self):
        cells = [(3, 1), (0, 2), (3, 1), (-1, 1), (5, -7), (0, 2), (2, 1)]
        before = list(cells)
        ink = Ink(cells)
        self.assertEqual(ink.cells(), [(5, -7), (-1, 1), (2, 1), (3, 1), (0, 2)])
        self.assertEqual(list(ink), ink.cells())
        self.assertEqual(len(ink), 5)
        self.assertEqual(cells, before)

    def test_no_cells(self):
        ink = Ink([])
        self.assertEqual((ink.cells(), ink.spans(), len(ink), list(ink)), ([], [], 0, []))
        self.assertEqual((ink.left(0), ink.right(0)), (None, None))
        self.assertIs((0, 0) in ink, False)
        self.assertEqual(ink.moved(1, 1).cells(), [])

    def test_far_out(self):
        cells = [(1000, 1000), (-1000, -1000), (-1000, 1000), (1000, -1000)]
        ink = Ink(cells)
        self.assertEqual(ink.cells(), in_order(cells))
        self.assertEqual(ink.spans()[0], (-1000, ((-1000, -999), (1000, 1001))))
        self.assertEqual((ink.left(1000), ink.right(1000)), (-1000, 1001))
        self.assertEqual(ink.moved(10 ** 9, 0).left(1000), 10 ** 9 - 1000)

    def test_spans_and_ends(self):
        ink = Ink([(0, 0), (1, 0), (3, 0), (4, 0), (5, 0), (-2, 0), (7, 2)])
        self.assertEqual(ink.spans(), [(0, ((-2, -1), (0, 2), (3, 6))), (2, ((7, 8),))])
        self.assertEqual((ink.left(0), ink.right(0)), (-2, 6))
        self.assertEqual((ink.left(2), ink.right(2)), (7, 8))
        for y in (-1, 1, 3, 1000):
            self.assertEqual((ink.left(y), ink.right(y)), (None, None))

    def test_contains(self):
        ink = Ink([(1, 2), (3, 4)])
        self.assertIs((1, 2) in ink, True)
        self.assertIs((2, 1) in ink, False)
        self.assertIs((3, 2) in ink, False)
        self.assertIs((10 ** 9, 0) in ink, False)

    def test_moved(self):
        ink = Ink([(1, 2), (3, 4)])
        self.assertEqual(ink.moved(-5, 7).cells(), [(-4, 9), (-2, 11)])
        self.assertEqual(ink.cells(), [(1, 2), (3, 4)])
        self.assertEqual(ink.moved(0, 0).cells(), ink.cells())

    def test_signs(self):
        source = random.Random(31)
        for _ in range(200):
            one = [(source.randint(-3, 3), source.randint(-3, 3)) for _ in range(source.randint(0, 25))]
            other = [(source.randint(-3, 3), source.randint(-3, 3)) for _ in range(source.randint(0, 25))]
            left, right = Ink(one), Ink(other)
            for ink, cells in (
                (left | right, set(one) | set(other)), (left & right, set(one) & set(other)),
                (left - right, set(one) - set(other)), (left ^ right, set(one) ^ set(other)),
            ):
                self.assertIsInstance(ink, Ink)
                self.assertEqual(ink.cells(), in_order(cells))
                self.assertEqual(len(ink), len(cells))
                self.assertTrue(all(cell in ink for cell in cells))
            self.assertEqual((left.cells(), right.cells()), (in_order(one), in_order(other)))

    def test_answers_are_new(self):
        cells = [(1, 1), (2, 1)]
        ink = Ink(cells)
        cells.append((9, 9))
        ink.cells().append((7, 7))
        ink.spans().append((7, ()))
        self.assertEqual(ink.cells(), [(1, 1), (2, 1)])
        self.assertEqual(ink.spans(), [(1, ((1, 3),))])


class InkOfTest(unittest.TestCase):
    def check(self, *outlines):
        self.assertEqual(ink_of(outlines).cells(), plain_ink(outlines))

    def test_no_outlines(self):
        self.assertEqual(ink_of(()).cells(), [])
        self.assertIsInstance(ink_of(()), Ink)

    def test_a_box(self):
        self.assertEqual(ink_of((box(1, 2, 2, 2),)).cells(), [(1, 2), (2, 2), (1, 3), (2, 3)])
        self.assertEqual(ink_of((box(1, 2, -2, -1),)).cells(), [(-1, 1), (0, 1)])

    def test_one_in_another(self):
        self.check(box(0, 0, 6, 6), box(1, 1, 4, 4))
        self.check(box(0, 0, 6, 6), box(1, 1, 4, 4), box(2, 2, 1, 1))
        self.assertIs((2, 2) in ink_of((box(0, 0, 6, 6), box(1, 1, 4, 4))), False)

    def test_walked_twice(self):
        self.assertEqual(ink_of((box(0, 0, 3, 3), box(0, 0, 3, 3))).cells(), [])
        self.assertEqual(ink_of((box(0, 0, 3, 3), box(3, 3, -3, -3))).cells(), [])
        self.check(box(0, 0, 3, 3), box(0, 0, 3, 3), box(0, 0, 3, 3))
        twice = box(0, 0, 2, 2)[2] * 2
        self.assertEqual(ink_of(((0, 0, twice),)).cells(), [])

    def test_overlapping(self):
        self.check(box(0, 0, 4, 4), box(2, 2, 4, 4))
        self.check(box(0, 0, 4, 4), box(4, 0, 4, 4))
        self.check(box(0, 0, 4, 4), box(0, 2, 4, 4))

    def test_a_line_there_and_back(self):
        self.assertEqual(ink_of(((0, 0, (("line", 0, 5), ("line", 0, -5))),)).cells(), [])
        self.assertEqual(ink_of(((0, 0, (("line", 5, 0), ("line", -5, 0))),)).cells(), [])

    def test_arcs(self):
        ring = (("flat", 5, 5), ("steep", -5, 5), ("flat", -5, -5), ("steep", 5, -5))
        self.check((10, 0, ring))
        self.check((40, 40, ring), (38, -20, ring))
        self.check((-20, -20, (("line", 20, 7), ("line", -13, 5), ("line", -7, -12))))

    def test_random_outlines(self):
        source = random.Random(30)
        for _ in range(25):
            outlines = []
            for _ in range(source.randint(1, 3)):
                strokes = [("line", source.randint(1, 9), source.randint(-9, 9)) for _ in range(3)]
                strokes.append(("steep", source.choice([-4, 4]), source.choice([-4, 4])))
                dx, dy = (-sum(stroke[at] for stroke in strokes) for at in (1, 2))
                if (dx, dy) != (0, 0):
                    strokes.append(("line", dx, dy))
                outlines.append((source.randint(-9, 9), source.randint(-9, 9), tuple(strokes)))
            self.check(*outlines)

    def test_a_line_longer_than_a_stroke(self):
        self.assertEqual(len(ink_of((box(-40, -40, 100, 90),))), 9000)

    def refuse(self, place, *outlines):
        with self.assertRaises(OpenOutline) as caught:
            ink_of(outlines)
        self.assertEqual(caught.exception.place, place)

    def test_open_outlines(self):
        closed, broken = box(0, 0, 2, 2), (0, 0, (("line", 1, 0),))
        self.refuse(0, broken)
        self.refuse(1, closed, broken)
        self.refuse(1, closed, broken, broken)
        self.refuse(2, closed, closed, (5, 5, (("line", 3, 0), ("line", -2, 0))))


if __name__ == "__main__":
    unittest.main()
