"""Points 5 to 9: names, texts, paths, lineages and bounds."""

import unittest

from stylepages.errors import BadPath
from stylepages.tree.parts import TEXT_CHARACTERS, is_name, is_text, item_at, lineage, walk, within_bounds
from tests.support import PRINTABLE, SAMPLE, TEXT_SIGNS, nested


def plain_walk(path, item):
    """Point 9, in the words of the point."""
    rows = [(path, item)]
    if isinstance(item, tuple) and len(item) == 3:
        for k, inner in enumerate(item[2]):
            rows = rows + plain_walk(path + (k,), inner)
    return rows


class NamesAndTextsTest(unittest.TestCase):
    def test_names(self):
        for word in ("a", "z", "abcdefgh", "zzzzzzzz"):
            self.assertIs(is_name(word), True, word)
        for word in ("", "abcdefghi", "a" * 4000, "A", "aB", "a1", "1", "a\n", "\n", "a b", " a", "a-", "*", "a."):
            self.assertIs(is_name(word), False, word)

    def test_names_by_each_sign(self):
        for sign in PRINTABLE + "\n":
            self.assertIs(is_name("a" + sign), "a" <= sign <= "z", sign)

    def test_text_characters(self):
        self.assertEqual(sorted(TEXT_CHARACTERS), sorted(TEXT_SIGNS))
        self.assertIsInstance(TEXT_CHARACTERS, str)

    def test_texts_by_each_sign(self):
        for sign in PRINTABLE + "\n":
            self.assertIs(is_text(sign), sign in TEXT_SIGNS, sign)
            self.assertIs(is_text("ab" + sign), sign in TEXT_SIGNS, sign)

    def test_lengths_of_texts(self):
        for many, good in ((0, False), (1, True), (60, True), (61, False), (4000, False)):
            self.assertIs(is_text("x" * many), good)
        self.assertIs(is_text("   "), True)
        self.assertIs(is_text("a-b"), False)


class PathsTest(unittest.TestCase):
    def test_walk_order(self):
        self.assertEqual(
            [path for path, _ in walk(SAMPLE)],
            [(), (0,), (1,), (1, 0), (1, 1), (1, 1, 0), (1, 1, 1), (1, 2), (2,), (3,), (4,)],
        )
        self.assertEqual(list(walk(SAMPLE)), plain_walk((), SAMPLE))

    def test_walk_is_a_generator(self):
        rows = walk(SAMPLE)
        self.assertEqual(next(rows), ((), SAMPLE))
        self.assertEqual(next(rows), ((0,), "one"))

    def test_walk_of_a_part_without_items(self):
        self.assertEqual(list(walk(("p", (), ()))), [((), ("p", (), ()))])

    def test_equal_items_side_by_side(self):
        inner = ("p", (), ("x",))
        root = ("p", (), (inner, inner, "x", "x"))
        self.assertEqual(
            [path for path, _ in walk(root)], [(), (0,), (0, 0), (1,), (1, 0), (2,), (3,)]
        )

    def test_item_at_agrees_with_walk(self):
        for path, item in plain_walk((), SAMPLE):
            self.assertEqual(item_at(SAMPLE, path), item)

    def test_paths_that_lead_nowhere(self):
        bad = [(5,), (-1,), (10 ** 40,), (-(10 ** 40),), (1, 3), (1, -1), (3, 0), (1, 1, 2), (1, 1, -1)]
        behind_items = [(0, 0), (0, -1), (2, 0), (2, 1), (1, 2, 0), (1, 1, 1, 0), (0, 0, 0)]
        for path in bad + behind_items:
            with self.assertRaises(BadPath):
                item_at(SAMPLE, path)
            with self.assertRaises(BadPath):
                lineage(SAMPLE, path)

    def test_lineage(self):
        self.assertEqual(lineage(SAMPLE, ()), (("doc", ("a", "b")),))
        self.assertEqual(
            lineage(SAMPLE, (1, 1)), (("doc", ("a", "b")), ("p", ()), ("em", ("red",)))
        )

    def test_lineage_of_an_item_that_is_no_part(self):
        for path in ((0,), (2,), (1, 2), (1, 1, 0)):
            with self.assertRaises(BadPath):
                lineage(SAMPLE, path)

    def test_large_parts(self):
        wide = ("p", (), ("x",) * 299)
        self.assertEqual(len(list(walk(wide))), 300)
        self.assertEqual(item_at(wide, (298,)), "x")
        deep = nested(20, ("x",))
        self.assertEqual(item_at(deep, (0,) * 20), "x")
        self.assertEqual(lineage(deep, (0,) * 19), (("p", ()),) * 20)
        self.assertEqual([path for path, _ in walk(deep)], [(0,) * k for k in range(21)])
        self.assertIs(within_bounds(wide), False)
        self.assertIs(within_bounds(deep), False)


class BoundsTest(unittest.TestCase):
    def check(self, root, good):
        self.assertIs(within_bounds(root), good)

    def test_items_of_a_part(self):
        for many, good in ((0, True), (12, True), (13, False)):
            self.check(("p", (), ("x",) * many), good)
            self.check(nested(6, ("x",) * many), good)
            self.check(nested(6, (("#", "a"),) * many), good)

    def test_items_in_all(self):
        full = ("p", (), ("x",) * 12)
        self.check(("p", (), (full,) * 4 + ("x",) * 7), True)
        self.check(("p", (), (full,) * 4 + ("x",) * 8), False)
        self.check(("p", (), (full,) * 4 + (("p", (), ("x",) * 6),)), True)
        self.check(("p", (), (full,) * 4 + (("p", (), ("x",) * 7),)), False)

    def test_characters_of_all_texts(self):
        row = ("x" * 60,) * 6
        self.check(("p", (), row + ("x" * 40,)), True)
        self.check(("p", (), row + ("x" * 41,)), False)
        self.check(("p", (), row + (nested(5, ("x" * 20, "x" * 20)),)), True)
        self.check(("p", (), row + (nested(5, ("x" * 20, "x" * 21)),)), False)

    def test_depth(self):
        self.check(nested(6), True)
        self.check(nested(7), False)
        self.check(nested(6, ("x", ("#", "a"), ("@", "a"))), True)
        self.check(("p", (), ("x", nested(5))), True)
        self.check(("p", (), ("x", nested(6))), False)

    def test_references(self):
        self.check(("p", (), (("@", "a"),) * 3), True)
        self.check(("p", (), (("@", "a"),) * 4), False)
        self.check(("p", (), (("@", "a"), nested(5, (("@", "a"),) * 2))), True)
        self.check(("p", (), (("@", "a"), nested(5, (("@", "a"),) * 3))), False)
        self.check(("p", (), (("#", "a"),) * 12), True)


if __name__ == "__main__":
    unittest.main()
