"""Points 40 to 43: the pieces of resolved runs, and bare rows."""

import random
import unittest

from stylepages.faces.face import Face
from stylepages.sheets.sheet import Sheet
from stylepages.tree.notation import read_document
from stylepages.words.flow import flow
from stylepages.words.resolve import measures_of, plain_words, resolve
from stylepages.words.shape import bare, shape
from tests.plain_words import plain_pieces
from tests.test_resolve import FACES, MARK, random_resolved, shown, text

EVEN = {"plain": Face.even(1), "bold": Face.even(3)}


def pieces_of(*resolved, faces=FACES):
    return shape(resolved, measures_of(resolved, faces))


class ShapeTest(unittest.TestCase):
    def test_the_example(self):
        root = read_document('(doc (p "ab|c d" (n "x")))')
        paragraphs = flow(root, Sheet.read("p { place block }\nn { place note }"))[0]
        resolved = resolve(paragraphs[0][0], ())
        boxes, joints = shape(resolved, measures_of(resolved, EVEN))
        self.assertEqual(boxes, (
            (4, (("a", 0, 2, "plain"), ("b", 2, 2, "plain")), ()),
            (2, (("c", 0, 2, "plain"),), ()),
            (2, (("d", 0, 2, "plain"),), (("note", 0),)),
        ))
        self.assertEqual(joints, (("hyphen", 2, 0, ("-", 0, 2, "plain")), ("gap", 2, 2, 0)))
        self.assertEqual(plain_words(resolved), ["abc", "d"])
        self.assertEqual(bare((boxes, joints)), ((4, 2, 2), (("hyphen", 2, 0), ("gap", 2, 2, 0))))

    def test_no_letters(self):
        self.assertEqual(pieces_of(), ((), ()))
        self.assertEqual(pieces_of(text(" | "), MARK), ((), ()))
        self.assertEqual(bare(((), ())), ((), ()))

    def test_offsets(self):
        boxes, joints = pieces_of(text("xox", 3))
        letters = (("x", 0, 3, "plain"), ("o", 12, 3, "plain"), ("x", 27, 3, "plain"))
        self.assertEqual((boxes, joints), (((45, letters, ()),), ()))

    def test_offsets_across_sizes_and_faces(self):
        boxes, _ = pieces_of(text("x", 2), text("o", 3), text("x", 3), MARK, text("o", 3, "bold"))
        self.assertEqual(boxes, ((63, (
            ("x", 0, 2, "plain"), ("o", 12, 3, "plain"), ("x", 27, 3, "plain"), ("o", 45, 3, "bold")
        ), (("label", 0),)),))

    def test_hyphens(self):
        boxes, joints = pieces_of(text("x|o", 3))
        self.assertEqual(boxes, ((18, (("x", 0, 3, "plain"),), ()), (18, (("o", 0, 3, "plain"),), ())))
        self.assertEqual(joints, (("hyphen", 9, 6, ("-", -3, 3, "plain")),))
        self.assertEqual(pieces_of(text("o|x", 2))[1], (("hyphen", 2, 2, ("-", -6, 2, "plain")),))
        self.assertEqual(pieces_of(text("o|", 2), text("x", 3))[1], (("hyphen", 2, 0, ("-", -6, 2, "plain")),))
        self.assertEqual(
            pieces_of(text("x", 2, "bold"), text("|o"))[1], (("hyphen", 8, 0, ("-", 0, 2, "bold")),)
        )

    def test_gaps(self):
        self.assertEqual(pieces_of(text("x o", 3))[1], (("gap", 15, 9, 6),))
        self.assertEqual(pieces_of(text("x"), text(" ", 3, "bold"), text(" o"))[1], (("gap", 27, 12, 18),))
        self.assertEqual(pieces_of(text("x "), text(" ", 3, "bold"), text("o"))[1], (("gap", 10, 6, 4),))
        self.assertEqual(pieces_of(text(" x"), text("| |", 3), text(" o "))[1], (("gap", 15, 9, 6),))

    def marks(self, *resolved):
        return [marks for _, _, marks in pieces_of(*resolved)[0]]

    def test_marks(self):
        label, note, place = ("mark", "label", 3), ("mark", "note", 0), ("mark", "float", 1)
        self.assertEqual(self.marks(label, note, text("x o")), [(("label", 3), ("note", 0)), ()])
        self.assertEqual(self.marks(text(" |"), label, text("x o")), [(("label", 3),), ()])
        self.assertEqual(self.marks(text("x"), label, text(" o")), [(("label", 3),), ()])
        self.assertEqual(self.marks(text("x "), label, text("o")), [(("label", 3),), ()])
        self.assertEqual(self.marks(text("x o"), place, note), [(), (("float", 1), ("note", 0))])
        self.assertEqual(self.marks(text("x|"), label, text("o")), [(("label", 3),), ()])
        self.assertEqual(self.marks(text("x"), label, text("o"), note, text("|x")), [(("label", 3), ("note", 0)), ()])

    def test_marks_of_references(self):
        self.assertEqual(self.marks(shown("x", 4)), [(("ref", 4),)])
        self.assertEqual(self.marks(text("x"), shown(" o x", 1)), [(), (("ref", 1),), ()])
        self.assertEqual(self.marks(text("x"), shown("|o", 1)), [(), (("ref", 1),)])
        self.assertEqual(self.marks(text("x"), shown("o|x", 1)), [(("ref", 1),), ()])
        self.assertEqual(
            self.marks(MARK, shown(" x", 1), MARK, text("o "), shown("o", 0), MARK),
            [(("label", 0), ("ref", 1), ("label", 0)), (("ref", 0), ("label", 0))],
        )

    def test_pieces_need_no_faces(self):
        resolved = (text("x|o x"),)
        measures = (
            ("hyphen", "plain", "x", 7, 2), ("letter", "plain", "o", 20), ("letter", "plain", "x", 10),
            ("pair", "plain", "x", "o", 5), ("space", "plain", 4, 3, 1),
        )
        self.assertEqual(shape(resolved, measures), ((
            (20, (("x", 0, 2, "plain"),), ()), (40, (("o", 0, 2, "plain"),), ()), (20, (("x", 0, 2, "plain"),), ()),
        ), (("hyphen", 10, 10, ("-", -4, 2, "plain")), ("gap", 8, 6, 2))))

    def test_kinds_of_values(self):
        boxes, joints = pieces_of(MARK, text("x|o x"))
        for row in (boxes, joints, boxes[0], boxes[0][1], boxes[0][2], joints[0]):
            self.assertIsInstance(row, tuple)

    def test_bare_rows(self):
        one, other = pieces_of(text("xx|o.")), pieces_of(MARK, text("xx|o."))
        self.assertNotEqual(one, other)
        self.assertEqual(bare(one), bare(other))
        self.assertEqual(bare(one), (tuple(box[0] for box in one[0]), (one[1][0][:3],)))
        self.assertEqual(bare(pieces_of(text("x o", 3))), ((18, 18), (("gap", 15, 9, 6),)))

    def test_against_a_plain_reading(self):
        source = random.Random(40)
        for _ in range(500):
            resolved = random_resolved(source)
            self.assertEqual(pieces_of(*resolved), plain_pieces(resolved, FACES))


if __name__ == "__main__":
    unittest.main()
