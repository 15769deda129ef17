"""Points 10 to 12: the edits of a document."""

import random
import unittest
from itertools import product

from stylepages.errors import BadPath, StyleError, TooLarge
from stylepages.tree.edits import apply_edit, independent, inverse_edit
from stylepages.tree.parts import walk
from tests.support import SAMPLE, nested, random_document, random_part

EM = ("em", ("red",), ("three", ("#", "top")))
ROOT = ("doc", (), ("a", ("p", ("m",), ("b", "c")), ("@", "x")))
FULL = ("p", (), ("x",) * 12)


class ApplyTest(unittest.TestCase):
    def check(self, edit, items, root=ROOT):
        before = repr((root, edit))
        self.assertEqual(apply_edit(root, edit), ("doc", (), items))
        self.assertEqual(repr((root, edit)), before)

    def refuse(self, edit, error, root=ROOT):
        with self.assertRaises(error):
            apply_edit(root, edit)
        with self.assertRaises(error):
            inverse_edit(root, edit)

    def test_put(self):
        a, p, x = ROOT[2]
        self.check(("put", (0,), "n"), ("n", a, p, x))
        self.check(("put", (3,), ("#", "n")), (a, p, x, ("#", "n")))
        self.check(("put", (1,), ("@", "n")), (a, ("@", "n"), p, x))
        self.check(("put", (1, 2), EM), (a, ("p", ("m",), ("b", "c", EM)), x))
        self.check(("put", (1, 0), ("q", (), ())), (a, ("p", ("m",), (("q", (), ()), "b", "c")), x))

    def test_put_does_not_fit(self):
        for path in ((), (4,), (-1,), (1, 3), (1, -1), (0, 0), (2, 0), (9, 0), (1, 0, 0), (10 ** 30,)):
            self.refuse(("put", path, "n"), BadPath)

    def test_put_of_a_part_that_is_no_document(self):
        for item in (nested(7), ("p", (), ("x",) * 13), ("p", (), (("@", "a"),) * 4)):
            self.refuse(("put", (0,), item), BadPath)

    def test_take(self):
        a, p, x = ROOT[2]
        self.check(("take", (0,)), (p, x))
        self.check(("take", (2,)), (a, p))
        self.check(("take", (1,)), (a, x))
        self.check(("take", (1, 1)), (a, ("p", ("m",), ("b",)), x))

    def test_take_does_not_fit(self):
        for path in ((), (3,), (-1,), (1, 2), (0, 0), (2, 0), (5, 5)):
            self.refuse(("take", path), BadPath)

    def test_text(self):
        a, p, x = ROOT[2]
        self.check(("text", (0,), "new"), ("new", p, x))
        self.check(("text", (1, 1), "new"), (a, ("p", ("m",), ("b", "new")), x))
        for path in ((), (1,), (2,), (3,), (-1,), (0, 0)):
            self.refuse(("text", path, "new"), BadPath)

    def test_kind_and_marks(self):
        a, p, x = ROOT[2]
        self.assertEqual(apply_edit(ROOT, ("kind", (), "k")), ("k", (), ROOT[2]))
        self.assertEqual(apply_edit(ROOT, ("marks", (), ("k", "l"))), ("doc", ("k", "l"), ROOT[2]))
        self.check(("kind", (1,), "k"), (a, ("k", ("m",), ("b", "c")), x))
        self.check(("marks", (1,), ()), (a, ("p", (), ("b", "c")), x))
        for path in ((0,), (2,), (3,), (-1,), (1, 0), (0, 0)):
            self.refuse(("kind", path, "k"), BadPath)
            self.refuse(("marks", path, ()), BadPath)

    def test_wrap(self):
        a, p, x = ROOT[2]
        self.check(("wrap", (0,), 3, "q", ("n",)), (("q", ("n",), (a, p, x)),))
        self.check(("wrap", (1,), 2, "q", ()), (a, ("q", (), (p, x))))
        self.check(("wrap", (0,), 0, "q", ()), (("q", (), ()), a, p, x))
        self.check(("wrap", (3,), 0, "q", ()), (a, p, x, ("q", (), ())))
        self.check(("wrap", (1, 1), 1, "q", ()), (a, ("p", ("m",), ("b", ("q", (), ("c",)))), x))

    def test_wrap_does_not_fit(self):
        for path, count in (
            ((), 0), ((), 1), ((0,), 4), ((3,), 1), ((4,), 0), ((-1,), 1), ((-1,), 2), ((1,), -1),
            ((3,), -1), ((0, 0), 0), ((2, 0), 0), ((1, 0), 3), ((10 ** 30,), 0), ((0,), 10 ** 30),
        ):
            self.refuse(("wrap", path, count, "q", ()), BadPath)

    def test_open(self):
        a, p, x = ROOT[2]
        self.check(("open", (1,)), (a, "b", "c", x))
        self.check(("open", (0,)), (a,), ("doc", (), (("p", (), ()), a)))
        for path in ((), (0,), (2,), (3,), (-1,), (1, 0)):
            self.refuse(("open", path), BadPath)

    def test_too_many_items_of_a_part(self):
        root = ("doc", (), (FULL, "a", ("q", (), ("b", "c"))))
        self.refuse(("put", (0, 0), "n"), TooLarge, root)
        self.refuse(("wrap", (0, 12), 0, "q", ()), TooLarge, root)
        self.refuse(("open", (0,)), TooLarge, root)
        eleven = ("doc", (), ("x",) * 10 + (("q", (), ("b", "c")),))
        self.assertEqual(len(apply_edit(eleven, ("open", (10,)))[2]), 12)
        self.refuse(("open", (11,)), TooLarge, ("doc", (), ("x",) * 11 + (("q", (), ("b", "c")),)))

    def test_too_many_items(self):
        most = ("doc", (), (FULL,) * 4 + ("x",) * 7)
        self.refuse(("put", (0,), "n"), TooLarge, most)
        self.refuse(("wrap", (5,), 1, "q", ()), TooLarge, most)
        self.refuse(("put", (0,), ("#", "a")), TooLarge, most)
        self.assertEqual(apply_edit(most, ("take", (0,)))[2], most[2][1:])

    def test_too_many_characters(self):
        root = ("doc", (), ("x" * 60,) * 6 + ("x" * 39,))
        self.assertEqual(apply_edit(root, ("text", (6,), "x" * 40))[2][6], "x" * 40)
        self.refuse(("text", (6,), "x" * 41), TooLarge, root)
        self.refuse(("put", (0,), "xx"), TooLarge, root)
        self.assertEqual(apply_edit(root, ("put", (0,), "x"))[2][0], "x")

    def test_too_deep(self):
        root = ("doc", (), (nested(5, ("x",)),))
        self.refuse(("wrap", (0,), 1, "q", ()), TooLarge, root)
        self.refuse(("wrap", (0, 0, 0, 0, 0, 0), 1, "q", ()), TooLarge, root)
        self.refuse(("put", (0, 0), nested(5)), TooLarge, root)
        self.assertEqual(apply_edit(root, ("put", (0, 0), nested(4)))[0], "doc")

    def test_too_many_references(self):
        root = ("doc", (), (("@", "a"),) * 3)
        self.refuse(("put", (0,), ("@", "a")), TooLarge, root)
        self.refuse(("put", (0,), ("p", (), (("@", "a"),))), TooLarge, root)

    def test_bad_path_comes_before_too_large(self):
        root = ("doc", (), (FULL, "x" * 60) + ("x" * 60,) * 5)
        self.refuse(("put", (0, 13), "n"), BadPath, root)
        self.refuse(("put", (-1,), "x" * 60), BadPath, root)
        self.refuse(("text", (0,), "x" * 60), BadPath, root)


def random_edit(source, root):
    paths = [path for path, _ in walk(root)]
    path = source.choice(paths)
    if source.random() < 0.3:
        path = path + (source.randint(-1, 2),)
    return source.choice([
        ("put", path, random_part(source, 2)), ("put", path, "z"), ("take", path), ("text", path, "w"),
        ("kind", path, "k"), ("marks", path, ("k",)), ("open", path),
        ("wrap", path, source.randint(-1, 3), "w", ("v",)),
    ])


def outcome(root, edit):
    try:
        return apply_edit(root, edit)
    except StyleError as error:
        return type(error)


class InverseTest(unittest.TestCase):
    def test_forms(self):
        _, p, _ = ROOT[2]
        self.assertEqual(inverse_edit(ROOT, ("put", (1, 2), "n")), ("take", (1, 2)))
        self.assertEqual(inverse_edit(ROOT, ("take", (1,))), ("put", (1,), p))
        self.assertEqual(inverse_edit(ROOT, ("text", (0,), "n")), ("text", (0,), "a"))
        self.assertEqual(inverse_edit(ROOT, ("kind", (), "n")), ("kind", (), "doc"))
        self.assertEqual(inverse_edit(ROOT, ("marks", (1,), ())), ("marks", (1,), ("m",)))
        self.assertEqual(inverse_edit(ROOT, ("wrap", (0,), 2, "q", ())), ("open", (0,)))
        self.assertEqual(inverse_edit(ROOT, ("open", (1,))), ("wrap", (1,), 2, "p", ("m",)))

    def test_there_and_back(self):
        source = random.Random(11)
        done = 0
        for _ in range(3000):
            root = random_document(source)
            edit = random_edit(source, root)
            after = outcome(root, edit)
            if isinstance(after, tuple):
                done += 1
                back = inverse_edit(root, edit)
                self.assertEqual(apply_edit(after, back), root)
                self.assertEqual(apply_edit(root, inverse_edit(after, back)), after)
            else:
                with self.assertRaises(after):
                    inverse_edit(root, edit)
        self.assertGreater(done, 500)


class IndependentTest(unittest.TestCase):
    def check(self, first, second, answer):
        self.assertIs(independent(first, second), answer)
        self.assertIs(independent(second, first), answer)

    def test_two_rows(self):
        for one, other, answer in (
            ((0,), (1,), False), ((0,), (0, 1), False), ((0, 1), (1, 1), True), ((0, 1), (0, 2), False),
            ((0, 1, 1), (0, 2, 1), True), ((), (0,), False), ((), (0, 1), False), ((1, 0), (0, 1, 0), True),
            ((), (), False),
        ):
            self.check(("put", one, "x"), ("take", other), answer)
            self.check(("wrap", one, 1, "k", ()), ("open", other), answer)
            self.check(("put", one, "x"), ("wrap", other, 1, "k", ()), answer)

    def test_a_row_and_a_spot(self):
        for path, spot, answer in (
            ((0, 1), (0,), True), ((0, 1), (0, 0), False), ((0, 1), (), True), ((0, 1), (1,), True),
            ((0, 1), (1, 5), True), ((0,), (0,), False), ((0,), (), True), ((0, 1), (0, 1, 2), False),
            ((2, 0, 1), (2, 1, 1), True), ((), (), True), ((), (0,), False),
        ):
            for row in (("put", path, "x"), ("take", path), ("wrap", path, 0, "k", ()), ("open", path)):
                for edit in (("text", spot, "x"), ("kind", spot, "k"), ("marks", spot, ())):
                    self.check(row, edit, answer)

    def test_two_spots(self):
        self.check(("text", (0,), "x"), ("text", (0,), "y"), False)
        self.check(("text", (0,), "x"), ("text", (1,), "x"), True)
        self.check(("kind", (0,), "x"), ("marks", (0,), ()), True)
        self.check(("kind", (), "x"), ("kind", (), "x"), False)
        self.check(("kind", (), "x"), ("kind", (0,), "x"), True)
        self.check(("marks", (1,), ()), ("marks", (1,), ("m",)), False)

    def test_independent_edits_meet(self):
        source = random.Random(12)
        met = 0
        for _ in range(8000):
            root = random_document(source)
            first, second = random_edit(source, root), random_edit(source, root)
            ends = outcome(root, first), outcome(root, second)
            fit = all(isinstance(end, tuple) for end in ends)
            if fit and independent(first, second):
                met += 1
                self.assertEqual(outcome(ends[0], second), outcome(ends[1], first))
                self.assertIsInstance(outcome(ends[0], second), tuple)
        self.assertGreater(met, 200)

    def test_every_pair_of_sorts_meets(self):
        edits = []
        for path in ((0,), (1,), (3,), (1, 0), (1, 1), (1, 1, 0), (3, 0)):
            edits += [("put", path, "n"), ("take", path), ("text", path, "n"), ("kind", path, "n")]
            edits += [("marks", path, ("n",)), ("wrap", path, 1, "n", ()), ("open", path)]
        fitting = [edit for edit in edits if isinstance(outcome(SAMPLE, edit), tuple)]
        pairs = [pair for pair in product(fitting, fitting) if independent(*pair)]
        for first, second in pairs:
            one = apply_edit(apply_edit(SAMPLE, first), second)
            self.assertEqual(one, apply_edit(apply_edit(SAMPLE, second), first))


if __name__ == "__main__":
    unittest.main()
