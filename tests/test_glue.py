"""Point 47: glue."""

import unittest

from stylepages.lines.glue import Glue


class GlueTest(unittest.TestCase):
    def check(self, glue, parts):
        self.assertIsInstance(glue, Glue)
        self.assertEqual(glue.parts(), parts)
        self.assertEqual((glue.width, glue.stretch, glue.shrink), parts)

    def test_parts(self):
        self.check(Glue(5, 3, 1), (5, 3, 1))
        self.check(Glue(-5, 0, 10 ** 30), (-5, 0, 10 ** 30))
        self.assertIsInstance(Glue(1, 2, 3).parts(), tuple)

    def test_signs(self):
        one, other = Glue(5, 3, 1), Glue(10, -20, 30)
        self.check(one + other, (15, -17, 31))
        self.check(other + one, (15, -17, 31))
        self.check(one - other, (-5, 23, -29))
        self.check(other - one, (5, -23, 29))
        self.check(one * 3, (15, 9, 3))
        self.check(3 * one, (15, 9, 3))
        self.check(one * -2, (-10, -6, -2))
        self.check(-2 * other, (-20, 40, -60))
        self.check(0 * one, (0, 0, 0))
        self.check(one * 0, (0, 0, 0))
        self.check(-one, (-5, -3, -1))
        self.check(-other, (-10, 20, -30))
        self.check(-(-other), (10, -20, 30))

    def test_large_numbers(self):
        far = 10 ** 40
        self.check(Glue(far, -far, 1) * far, (far * far, -far * far, far))
        self.check(-far * Glue(1, -1, 0), (-far, far, 0))
        self.check(Glue(far, 0, 0) - Glue(0, far, -far), (far, -far, far))

    def test_operands_stay(self):
        one, other = Glue(5, 3, 1), Glue(10, -20, 30)
        for glue in (one + other, one - other, 4 * one, one * 4, -one):
            self.assertIsNot(glue, one)
        self.check(one, (5, 3, 1))
        self.check(other, (10, -20, 30))

    def test_together(self):
        one, other = Glue(5, 3, 1), Glue(10, -20, 30)
        self.check(2 * one - other * 3 + -one, (-25, 63, -89))
        total = one
        total += other
        self.check(total, (15, -17, 31))
        self.check(one, (5, 3, 1))

    def test_other_kinds(self):
        for given in ("a", None, (1, 2, 3), "3"):
            self.assertRaises(TypeError, lambda: Glue(1, 1, 1) + given)
            self.assertRaises(TypeError, lambda: Glue(1, 1, 1) - given)
        self.assertRaises(TypeError, lambda: Glue(1, 1, 1) * Glue(1, 1, 1))
        self.assertRaises(TypeError, lambda: Glue(1, 1, 1) + 1)


if __name__ == "__main__":
    unittest.main()
