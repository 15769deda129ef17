"""Point 18: weights."""

import random
import unittest
from itertools import product

from stylepages.sheets.weights import Weight


class WeightTest(unittest.TestCase):
    def test_attributes(self):
        weight = Weight(3, 4)
        self.assertEqual((weight.marks, weight.kinds), (3, 4))

    def test_order_and_equality(self):
        counts = list(product(range(4), range(4)))
        for one, other in product(counts, counts):
            self.assertIs(Weight(*one) < Weight(*other), one < other)
            self.assertIs(Weight(*one) > Weight(*other), one > other)
            self.assertIs(Weight(*one) == Weight(*other), one == other)
            self.assertIs(Weight(*one) != Weight(*other), one != other)

    def test_marks_count_before_kinds(self):
        self.assertTrue(Weight(0, 99) < Weight(1, 0))
        self.assertFalse(Weight(1, 0) < Weight(0, 99))

    def test_sum(self):
        one, other = Weight(1, 2), Weight(30, 40)
        total = one + other
        self.assertIsInstance(total, Weight)
        self.assertEqual((total.marks, total.kinds), (31, 42))
        self.assertEqual((one.marks, one.kinds, other.marks, other.kinds), (1, 2, 30, 40))

    def test_equal_to_nothing_else(self):
        for thing in (0, 3, None, "Weight", (1, 2), [1, 2], {"marks": 1}, True, object()):
            self.assertIs(Weight(1, 2) == thing, False)
            self.assertIs(thing == Weight(1, 2), False)
            self.assertIs(Weight(1, 2) != thing, True)
        with self.assertRaises(TypeError):
            Weight(1, 2) < 3
        with self.assertRaises(TypeError):
            Weight(1, 2) + 3

    def test_sorted(self):
        counts = list(product(range(3), range(3)))
        mixed = list(counts)
        random.Random(18).shuffle(mixed)
        weights = sorted(Weight(*count) for count in mixed)
        self.assertEqual([(weight.marks, weight.kinds) for weight in weights], counts)


if __name__ == "__main__":
    unittest.main()
