"""Points 73, 66 and 65: the settings, their classes, measures and frames."""

import unittest

from stylepages.errors import BadSetting, StyleError
from stylepages.lines.measure import Measure
from stylepages.pages.frame import Frame
from stylepages.whole.settings import Settings
from tests.support import TEXT_SIGNS

# Point 73: the default of each setting, and the bounds of the numbers.
DEFAULTS = (
    ("width", 300), ("gutter", 20), ("height", 200), ("columns", 1), ("first", 1), ("most", 20), ("near", "here"),
    ("far", "p"), ("lost", "?"), ("hyphen", 50), ("twin", 100), ("river", 0), ("loose", 2), ("rule", 4), ("under", 4),
    ("wait", 1), ("late", 50), ("uneven", 1),
)
BOUNDS = {
    "width": (1, 5000), "gutter": (0, 500), "height": (1, 5000), "columns": (1, 2), "first": (1, 9000), "most": (1, 60),
    "hyphen": (0, 9999), "twin": (0, 9999), "river": (0, 9), "loose": (0, 9), "rule": (0, 200), "under": (0, 200),
    "wait": (0, 3), "late": (0, 9999), "uneven": (0, 99),
}
SHOWN = ("near", "far", "lost")
STYLE = ("left", 7, 11, 2, "yes", 3, 5)


class SettingsTest(unittest.TestCase):
    def bad(self, name, /, **given):
        with self.assertRaises(BadSetting) as caught:
            Settings(**given)
        self.assertEqual(caught.exception.name, name)
        with self.assertRaises(BadSetting) as caught:
            Settings(width=77).changed(**given)
        self.assertEqual(caught.exception.name, name)

    def good(self, name, value, /):
        for settings in (Settings(**{name: value}), Settings(width=77).changed(**{name: value})):
            self.assertEqual(settings.value(name), value)
        expected = tuple((told, value if told == name else default) for told, default in DEFAULTS)
        self.assertEqual(Settings(**{name: value}).data(), expected)

    def test_defaults(self):
        self.assertEqual(Settings().data(), DEFAULTS)
        for name, default in DEFAULTS:
            self.assertEqual(Settings().value(name), default)

    def test_kinds_of_values(self):
        self.assertIsInstance(Settings().data(), tuple)
        for pair in Settings(far="x", first=9).data():
            self.assertIsInstance(pair, tuple)

    def test_bounds(self):
        for name, (low, high) in BOUNDS.items():
            self.good(name, low)
            self.good(name, high)
            self.bad(name, **{name: low - 1})
            self.bad(name, **{name: high + 1})

    def test_shown_texts(self):
        for name in SHOWN:
            for text in ("x", "x" * 12, "a b", " a", "a|b", "|a|", "(see) p.", "0", "'", "!" + " " * 11):
                self.good(name, text)
            for text in ("", "x" * 13, " ", "|", "  | |", "a-b", "-", "a\n", "a\t", "a%", '"', "a_", "\u00e4", "#a"):
                self.bad(name, **{name: text})

    def test_all_text_characters(self):
        for char in TEXT_SIGNS:
            self.good("near", "x" + char)
        for code in range(32, 127):
            if chr(code) not in TEXT_SIGNS:
                self.bad("near", near="x" + chr(code))

    def test_values_of_the_wrong_kind(self):
        for name in BOUNDS:
            self.bad(name, **{name: "1"})
            self.bad(name, **{name: "here"})
            self.bad(name, **{name: ""})
        for name in SHOWN:
            self.bad(name, **{name: 1})
            self.bad(name, **{name: 0})
            self.bad(name, **{name: -1})

    def test_unknown_names(self):
        for name in ("x", "widths", "Width", "indent", "align", "given", "name", "value"):
            self.bad(name, **{name: 1})
            self.bad(name, **{name: "x"})

    def test_the_first_of_several_faults(self):
        self.bad("most", most=0, width=0)
        self.bad("width", width=0, most=0)
        self.bad("nothing", nothing=1, width=0)
        self.bad("width", width=0, nothing=1)
        self.bad("far", first=3, far="", wait=4, near="")
        self.bad("uneven", uneven=100, width=0)
        self.bad("zz", zz=1, aa=1)

    def test_value_of_an_unknown_name(self):
        for name in ("x", "widths", "", "Width", "indent"):
            with self.assertRaises(BadSetting) as caught:
                Settings().value(name)
            self.assertEqual(caught.exception.name, name)
            self.assertIsInstance(caught.exception, StyleError)

    def test_changed(self):
        old = Settings(width=100, near="x")
        new = old.changed(width=50, wait=3)
        self.assertEqual([new.value(name) for name in ("width", "near", "wait", "far")], [50, "x", 3, "p"])
        self.assertEqual([old.value(name) for name in ("width", "near", "wait", "far")], [100, "x", 1, "p"])
        self.assertIsInstance(new, Settings)
        self.assertEqual(old.changed().data(), old.data())
        self.assertEqual([name for name, _ in new.data()], [name for name, _ in DEFAULTS])
        self.assertRaises(BadSetting, old.changed, width=0)
        self.assertEqual(old.value("width"), 100)

    def test_given_dicts_that_are_changed_afterwards(self):
        given = {"width": 9}
        settings = Settings(**given)
        given["width"] = 10
        self.assertEqual(settings.value("width"), 9)


class ClassesTest(unittest.TestCase):
    def classes(self, first, most):
        return Settings(first=first, most=most).classes()

    def test_classes(self):
        self.assertEqual(Settings().classes(), (1, 2))
        self.assertEqual(self.classes(1, 20), (1, 2))
        self.assertEqual(self.classes(1, 9), (1,))
        self.assertEqual(self.classes(1, 10), (1, 2))
        self.assertEqual(self.classes(9, 1), (1,))
        self.assertEqual(self.classes(9, 2), (1, 2))
        self.assertEqual(self.classes(10, 60), (2,))
        self.assertEqual(self.classes(95, 60), (2, 3))
        self.assertEqual(self.classes(95, 5), (2,))
        self.assertEqual(self.classes(95, 6), (2, 3))
        self.assertEqual(self.classes(999, 60), (3, 4))
        self.assertEqual(self.classes(9000, 60), (4,))
        self.assertIsInstance(self.classes(9000, 60), tuple)


class MeasureTest(unittest.TestCase):
    def test_defaults(self):
        found = Settings().measure(("both", 0, 12, 1, "no", 0, 0))
        self.assertIsInstance(found, Measure)
        self.assertEqual(found.key(), (300, 0, "both", 50, 100, 0, 2))

    def test_the_style_and_the_settings(self):
        settings = Settings(width=123, hyphen=1, twin=2, river=3, loose=4, gutter=9)
        self.assertEqual(settings.measure(STYLE).key(), (123, 7, "left", 1, 2, 3, 4))
        self.assertEqual(settings.measure(STYLE, full=False).key(), (123, 7, "left", 1, 2, 3, 4))

    def test_the_full_width(self):
        one = Settings(width=100, gutter=30)
        two = one.changed(columns=2)
        self.assertEqual(one.measure(STYLE).width, 100)
        self.assertEqual(two.measure(STYLE).width, 100)
        self.assertEqual(one.measure(STYLE, full=True).width, 100)
        self.assertEqual(two.measure(STYLE, full=True).width, 230)
        self.assertEqual(two.measure(STYLE, full=True).key()[1:], two.measure(STYLE).key()[1:])
        self.assertEqual(Settings(width=5000, gutter=500, columns=2).measure(STYLE, full=True).width, 10500)


class FrameOfSettingsTest(unittest.TestCase):
    def test_defaults(self):
        found = Settings().frame()
        self.assertIsInstance(found, Frame)
        self.assertEqual(found.key(), (200, 1, 4, 4, 1, 50, 1))

    def test_each_field(self):
        settings = Settings(height=5000, columns=2, rule=200, under=0, wait=3, late=9999, uneven=99)
        self.assertEqual(settings.frame().key(), (5000, 2, 200, 0, 3, 9999, 99))
        for at, name in enumerate(("height", "columns", "rule", "under", "wait", "late", "uneven")):
            key = list(Frame(200).key())
            key[at] = 2
            self.assertEqual(Settings(**{name: 2}).frame().key(), tuple(key))


if __name__ == "__main__":
    unittest.main()
