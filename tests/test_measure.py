"""Points 45 and 56: measures and frames."""

import unittest

from stylepages.lines.measure import Measure
from stylepages.pages.frame import Frame


class MeasureTest(unittest.TestCase):
    NAMES = ("width", "indent", "align", "hyphen", "twin", "river", "loose")

    def test_defaults(self):
        self.assertEqual(Measure(300).key(), (300, 0, "both", 50, 100, 0, 2))

    def test_attributes(self):
        measure = Measure(10500, indent=99, align="left", hyphen=9999, twin=1, river=9, loose=8)
        key = (10500, 99, "left", 9999, 1, 9, 8)
        self.assertEqual(tuple(getattr(measure, name) for name in self.NAMES), key)
        self.assertEqual(measure.key(), key)
        self.assertIsInstance(measure.key(), tuple)

    def test_each_attribute(self):
        for at, name in enumerate(self.NAMES[1:], 1):
            value = "left" if name == "align" else 7
            key = list(Measure(20).key())
            key[at] = value
            measure = Measure(20, **{name: value})
            self.assertEqual(measure.key(), tuple(key))
            self.assertEqual(getattr(measure, name), value)

    def test_of(self):
        key = (30, 4, "left", 3, 2, 1, 0)
        measure = Measure.of(key)
        self.assertIsInstance(measure, Measure)
        self.assertEqual(measure.key(), key)
        self.assertEqual(tuple(getattr(measure, name) for name in self.NAMES), key)


class FrameTest(unittest.TestCase):
    NAMES = ("height", "columns", "rule", "under", "wait", "late", "uneven")

    def test_defaults(self):
        self.assertEqual(Frame(200).key(), (200, 1, 4, 4, 1, 50, 1))

    def test_attributes(self):
        frame = Frame(5000, columns=2, rule=200, under=0, wait=3, late=9999, uneven=99)
        key = (5000, 2, 200, 0, 3, 9999, 99)
        self.assertEqual(tuple(getattr(frame, name) for name in self.NAMES), key)
        self.assertEqual(frame.key(), key)
        self.assertIsInstance(frame.key(), tuple)

    def test_each_attribute(self):
        for at, name in enumerate(self.NAMES[1:], 1):
            key = list(Frame(20).key())
            key[at] = 2
            frame = Frame(20, **{name: 2})
            self.assertEqual(frame.key(), tuple(key))
            self.assertEqual(getattr(frame, name), 2)

    def test_of(self):
        key = (30, 2, 3, 5, 0, 7, 9)
        frame = Frame.of(key)
        self.assertIsInstance(frame, Frame)
        self.assertEqual(frame.key(), key)
        self.assertEqual(Frame.of(Frame(9, columns=2, wait=0).key()).key(), (9, 2, 4, 4, 0, 50, 1))
        self.assertEqual(tuple(getattr(frame, name) for name in self.NAMES), key)


if __name__ == "__main__":
    unittest.main()
