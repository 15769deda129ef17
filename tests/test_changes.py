"""Points 67 and 72: the changed pages of two results."""

import random
import unittest

from stylepages.faces.face import Face
from stylepages.printing.changes import changed_pages
from stylepages.sheets.sheet import Sheet
from stylepages.tree.edits import apply_edit
from stylepages.tree.notation import read_document
from stylepages.whole.setting import set_document
from stylepages.whole.settings import Settings
from tests.plain_setting import random_setting

UNSET = ("unset", (((0,), ("page", 3)),))


def page(number, text="a"):
    return (number, (), (((0, ((0, text, 1, "plain"),)),),), ())


def pages(*rows, assignment=()):
    return ("pages", assignment, tuple(rows))


class ChangesTest(unittest.TestCase):
    def check(self, one, other, *numbers):
        self.assertEqual(changed_pages(one, other), list(numbers))
        self.assertEqual(changed_pages(other, one), list(numbers))

    def test_no_pages(self):
        self.check(pages(), pages())
        self.check(pages(), UNSET)
        self.check(UNSET, UNSET)
        self.check(UNSET, ("unset", ()))

    def test_equal_pages(self):
        self.check(pages(page(1), page(2)), pages(page(1), page(2)))
        # Only the pages count.
        self.check(pages(page(1), assignment=(0,)), pages(page(1), assignment=(1,)))

    def test_unequal_pages(self):
        self.check(pages(page(1), page(2), page(3)), pages(page(1, "b"), page(2), page(3, "c")), 1, 3)

    def test_pages_in_one_only(self):
        self.check(pages(page(1), page(2)), pages(page(1)), 2)
        self.check(pages(page(1), page(2)), pages(), 1, 2)
        self.check(pages(page(7), page(8)), pages(page(8), page(9)), 7, 9)
        self.check(pages(page(9), page(10), page(11, "x")), pages(page(11)), 9, 10, 11)

    def test_unset(self):
        self.check(UNSET, pages(page(3), page(4)), 3, 4)

    def test_results_that_come_from_no_setting(self):
        self.check(pages(page(30), page(4), page(100)), pages(page(4), page(999999999)), 30, 100, 999999999)
        self.check(pages((5, ((), ()), ((),), ((),))), pages((5, ((), ()), ((),), ())), 5)

    def test_a_new_list(self):
        one, other = pages(page(1)), pages()
        changed_pages(one, other).clear()
        self.check(one, other, 1)

    def test_set_documents(self):
        faces = {"plain": Face.even(1), "bold": Face.even(1)}
        sheet, settings = Sheet.read("p { place block; lead 10 }"), Settings(height=10, first=4)
        root = read_document('(doc (p "a") (p "b") (p "c"))')
        before = set_document(root, sheet, faces, settings)
        self.check(before, before)
        after = set_document(apply_edit(root, ("text", (1, 0), "x")), sheet, faces, settings)
        self.check(before, after, 5)
        after = set_document(apply_edit(root, ("take", (2,))), sheet, faces, settings)
        self.check(before, after, 6)
        after = set_document(root, sheet, faces, settings.changed(first=5))
        self.check(before, after, 4, 5, 6, 7)
        self.check(before, set_document(root, sheet, faces, settings.changed(height=9)), 4, 5, 6)

    def test_drawn_results(self):
        source = random.Random(720)
        some = 0
        for _ in range(60):
            root, sheet, faces, settings = random_setting(source)
            results = [set_document(root, sheet, faces, settings)]
            results.append(set_document(root, sheet, faces, settings.changed(height=source.randint(18, 70))))
            one, other = [{row[0]: row for row in result[2]} if result[0] == "pages" else {} for result in results]
            expected = [number for number in sorted(one.keys() | other.keys()) if one.get(number) != other.get(number)]
            self.check(results[0], results[1], *expected)
            some += bool(expected)
        self.assertGreater(some, 10)


if __name__ == "__main__":
    unittest.main()
