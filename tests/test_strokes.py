"""Points 27 to 29: strokes and outlines."""

import unittest
from itertools import product

from stylepages.faces.strokes import corners, unit_steps


def sign(number):
    return (number > 0) - (number < 0)


def plain_line(dx, dy):
    """The line of point 28."""
    n = abs(dx) + abs(dy)
    return [
        (sign(dx), 0) if (k + 1) * abs(dx) // n > k * abs(dx) // n else (0, sign(dy)) for k in range(n)
    ]


def plain_arc(word, dx, dy):
    """The arc of point 28."""
    r = abs(dx)
    first, second = (sign(dx), 0), (0, sign(dy))
    if word == "steep":
        first, second = second, first
    a, b, steps = r, 0, []
    while not (a == 0 and b == r):
        if a == 0:
            takes_first = True
        elif b == r:
            takes_first = False
        else:
            takes_first = abs(a * a + (b + 1) ** 2 - r * r) <= abs((a - 1) ** 2 + b * b - r * r)
        if takes_first:
            steps.append(first)
            b += 1
        else:
            steps.append(second)
            a -= 1
    return steps


def end_of(steps):
    return (sum(step[0] for step in steps), sum(step[1] for step in steps))


class LinesTest(unittest.TestCase):
    def test_level_and_upright(self):
        self.assertEqual(unit_steps(("line", 3, 0)), [(1, 0)] * 3)
        self.assertEqual(unit_steps(("line", -20, 0)), [(-1, 0)] * 20)
        self.assertEqual(unit_steps(("line", 0, 2)), [(0, 1)] * 2)
        self.assertEqual(unit_steps(("line", 0, -1)), [(0, -1)])

    def test_sloping(self):
        self.assertEqual(unit_steps(("line", 1, 1)), [(0, 1), (1, 0)])
        self.assertEqual(unit_steps(("line", 2, 1)), [(0, 1), (1, 0), (1, 0)])
        self.assertEqual(unit_steps(("line", -1, -2)), [(0, -1), (0, -1), (-1, 0)])
        self.assertEqual(unit_steps(("line", 3, -2)), [(0, -1), (1, 0), (0, -1), (1, 0), (1, 0)])

    def test_every_line(self):
        for dx, dy in product(range(-20, 21), range(-20, 21)):
            if (dx, dy) != (0, 0):
                steps = unit_steps(("line", dx, dy))
                self.assertEqual(steps, plain_line(dx, dy))
                self.assertEqual(end_of(steps), (dx, dy))
                self.assertEqual(len(steps), abs(dx) + abs(dy))

    def test_long_lines(self):
        for dx, dy in ((400, 0), (0, -400), (200, 200), (-399, 1), (1, -399), (123, -277)):
            steps = unit_steps(("line", dx, dy))
            self.assertEqual(steps, plain_line(dx, dy))
            self.assertEqual(end_of(steps), (dx, dy))


class ArcsTest(unittest.TestCase):
    def test_example(self):
        self.assertEqual(unit_steps(("flat", 2, 2)), [(1, 0), (0, 1), (1, 0), (0, 1)])

    def test_small_arcs(self):
        self.assertEqual(unit_steps(("flat", 1, 1)), [(1, 0), (0, 1)])
        self.assertEqual(unit_steps(("steep", 1, 1)), [(0, 1), (1, 0)])
        self.assertEqual(unit_steps(("flat", -1, 1)), [(-1, 0), (0, 1)])
        self.assertEqual(unit_steps(("steep", 2, -2)), [(0, -1), (1, 0), (0, -1), (1, 0)])
        self.assertEqual(
            unit_steps(("flat", 3, 3)), [(1, 0), (1, 0), (0, 1), (1, 0), (0, 1), (0, 1)]
        )

    def test_every_arc(self):
        for word, r, x, y in product(("flat", "steep"), range(1, 13), (-1, 1), (-1, 1)):
            steps = unit_steps((word, r * x, r * y))
            self.assertEqual(steps, plain_arc(word, r * x, r * y))
            self.assertEqual(end_of(steps), (r * x, r * y))
            self.assertEqual(len(steps), 2 * r)


class CornersTest(unittest.TestCase):
    def test_closed(self):
        square = (3, -2, (("line", 2, 0), ("line", 0, 1), ("line", -2, 0), ("line", 0, -1)))
        self.assertEqual(
            corners(square), [(3, -2), (4, -2), (5, -2), (5, -1), (4, -1), (3, -1), (3, -2)]
        )

    def test_open(self):
        self.assertEqual(corners((0, 0, (("line", 1, 1),))), [(0, 0), (0, 1), (1, 1)])
        self.assertEqual(corners((40, -20, (("flat", -1, 1),))), [(40, -20), (39, -20), (39, -19)])

    def test_strokes_one_behind_the_other(self):
        strokes = (("flat", 5, 5), ("steep", -5, 5), ("line", -3, -7), ("line", 3, -3))
        found = corners((1, 2, strokes))
        at = (1, 2)
        for word, dx, dy in strokes:
            self.assertEqual(found[found.index(at)], at)
            at = (at[0] + dx, at[1] + dy)
        self.assertEqual(found[-1], at)
        self.assertEqual(len(found), 1 + 10 + 10 + 10 + 6)
        self.assertEqual(corners((1, 2, strokes)), found)


if __name__ == "__main__":
    unittest.main()
