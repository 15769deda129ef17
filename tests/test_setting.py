"""Points 64, 66 to 70 and 74 to 76: the whole setting, its cells and its label pages."""

import random
import unittest

from stylepages.faces.face import Face
from stylepages.sheets.sheet import Sheet
from stylepages.tree.notation import read_document
from stylepages.whole.setting import cells_of, label_pages, set_document
from stylepages.whole.settings import Settings
from tests.plain_setting import plain_set, random_setting

FACES = {"plain": Face.even(1), "bold": Face.even(1)}
BASE = "doc { size 1; lead 10 }\np { place block }\nn { place note; lead 6 }\nf { place float; lead 7 }\nx { place none }"
INITIAL = (2, 12, "plain", "both", 1, "line", "no", 0, 0, 0)
DOC = (1, 10, "plain", "both", 1, "line", "no", 0, 0, 0)


def words(line):
    """Return the top, the x of the first letter and the characters of a set line."""
    top, letters = line
    return (top, letters[0][0], "".join(letter[1] for letter in letters))


def plainly(pages):
    """Return the pages with the lines as `words` gives them."""
    return [
        (number,) + tuple([[words(line) for line in lines] for lines in group] for group in groups)
        for number, *groups in pages
    ]


def letters(start, text, size=1, face="plain", step=1):
    return tuple((start + step * at, char, size, face) for at, char in enumerate(text))


class SettingTest(unittest.TestCase):
    def set(self, document, sheet=BASE, faces=FACES, **given):
        root = read_document(document)
        result = set_document(root, Sheet.read(sheet), faces, Settings(**given))
        self.assertEqual(set_document(root, Sheet.read(sheet), faces, Settings(**given), forward=True), result)
        self.assertEqual(plain_set(root, tuple(Sheet.read(sheet)), faces, Settings(**given))[0], result)
        return result

    def pages(self, document, sheet=BASE, **given):
        result = self.set(document, sheet, **given)
        self.assertEqual(result[0], "pages", result)
        return plainly(result[2])

    def test_without_text(self):
        for document in ("(doc)", '(doc " ")', "(doc #a)", '(doc (n "a") #a)', '(doc (x "a"))', '(doc (p) (p " | "))'):
            self.assertEqual(self.set(document), ("pages", (), ()))
            self.assertEqual(self.set(document, width=1, height=1, most=1), ("pages", (), ()))

    def test_item_by_item(self):
        # The example of point 43.
        result = self.set('(doc (p "ab|c d" (n "x")))', "p { place block }\nn { place note }", width=10, height=30)
        column = ((0, ((0, "a", 2, "plain"), (2, "b", 2, "plain"), (4, "c", 2, "plain"), (8, "d", 2, "plain"))),)
        note = ((18, ((0, "x", 2, "plain"),)),)
        self.assertEqual(result, ("pages", (), ((1, (), (column,), (note,)),)))

    def test_far_references(self):
        document = '(doc (p "ab cd " @t) (p "ef" #t))'
        given = {"width": 5, "height": 10, "near": "x", "far": "p"}
        result = self.set(document, **given)
        self.assertEqual(result, ("pages", (1,), (
            (1, (), (((0, letters(0, "ab") + letters(3, "cd")),),), ()),
            (2, (), (((0, letters(0, "p3")),),), ()),
            (3, (), (((0, letters(0, "ef")),),), ()),
        )))
        result = self.set(document, first=8, **given)
        self.assertEqual(result[1], (2,))
        self.assertEqual(plainly(result[2])[1:], [(9, [], [[(0, 0, "p10")]], []), (10, [], [[(0, 0, "ef")]], [])])
        result = self.set(document, first=998, **given)
        self.assertEqual(result[:2] + (plainly(result[2])[1],), ("pages", (4,), (999, [], [[(0, 0, "p1000")]], [])))

    def test_near_references(self):
        result = self.set('(doc (p "ab " @t " cd" #t))', width=10, height=10)
        self.assertEqual(plainly(result[2]), [(1, [], [[(0, 0, "abherecd")]], [])])

    def test_shown_texts_with_spaces_and_hyphens(self):
        document = '(doc (p "ab " @t "x") (p "c" #t))'
        self.assertEqual(self.pages(document, width=11, height=10, far="on p. "), [
            (1, [], [[(0, 0, "abonp.2x")]], []), (2, [], [[(0, 0, "c")]], []),
        ])
        self.assertEqual(self.pages(document, width=6, height=10, far="no|p.", most=9), [
            (1, [], [[(0, 0, "abno-")]], []), (2, [], [[(0, 0, "p.3x")]], []), (3, [], [[(0, 0, "c")]], []),
        ])

    def test_unset(self):
        document = '(doc (p.l "ab " @t " cd" #t))'
        sheet = BASE + "\np.l { align left }"
        given = {"width": 5, "height": 20, "near": "xxxx", "far": "p"}
        self.assertEqual(self.set(document, sheet, **given), ("unset", (
            ((0,), ("forms", (1,))), ((1,), ("forms", (0,))), ((2,), ("forms", (1,))),
        )))
        self.assertEqual(self.set('(doc (p "abcdef"))', width=5), ("unset", (((), ("line", "paragraph", 0, 0, 1)),)))
        result = self.set('(doc (p @t @t #t))', height=9)
        self.assertEqual(result, ("unset", tuple(
            ((a, b), ("page", 0)) for a in (0, 1, 2) for b in (0, 1, 2)
        )))
        self.assertEqual(self.set('(doc (p "a") (p "b"))', height=10, most=1), ("unset", (((), ("most", 2)),)))

    def test_lost_references(self):
        self.assertEqual(self.pages('(doc (p "ab" @t "c"))', lost="?!"), [(1, [], [[(0, 0, "ab?!c")]], [])])
        self.assertEqual(self.pages('(doc (p "ab" @t "c" (n #t "x")))')[0][2], [[(0, 0, "ab?c")]])

    def test_floats(self):
        document = '(doc (p "a" (f "x y") (f "z")) (p "b"))'
        self.assertEqual(self.pages(document, width=1, height=60), [
            (1, [[(0, 0, "x"), (7, 0, "y")], [(14, 0, "z")]], [[(25, 0, "a"), (35, 0, "b")]], []),
        ])
        self.assertEqual(self.pages(document, width=1, height=35, under=3), [
            (1, [[(0, 0, "x"), (7, 0, "y")], [(14, 0, "z")]], [[(24, 0, "a")]], []), (2, [], [[(0, 0, "b")]], []),
        ])

    def test_pages_of_floats_alone(self):
        document = '(doc (p "a" (f "x y z")))'
        self.assertEqual(self.pages(document, width=1, height=25), [
            (1, [], [[(0, 0, "a")]], []), (2, [[(0, 0, "x"), (7, 0, "y"), (14, 0, "z")]], [[]], []),
        ])
        found = self.pages(document, BASE + "\nf { align left }", width=1, height=25, columns=2, gutter=0)
        self.assertEqual(found, [
            (1, [], [[(0, 0, "a")], []], []), (2, [[(0, 0, "x"), (7, 0, "y"), (14, 0, "z")]], [[], []], []),
        ])

    def test_notes(self):
        document = '(doc (p "a" (n "x y") "b" (n "z")) (p "c"))'
        sheet = BASE + "\nn { align left }"
        self.assertEqual(self.pages(document, sheet, width=2, height=50), [
            (1, [], [[(0, 0, "ab"), (10, 0, "c")]], [[(32, 0, "x"), (38, 0, "y")], [(44, 0, "z")]]),
        ])
        self.assertEqual(self.pages(document, sheet, width=2, height=32), [
            (1, [], [[(0, 0, "ab")]], [[(14, 0, "x"), (20, 0, "y")], [(26, 0, "z")]]), (2, [], [[(0, 0, "c")]], []),
        ])

    def test_two_columns(self):
        document = '(doc (p "a b c d e" (n "xyz")))'
        found = self.pages(document, width=1, gutter=4, columns=2, height=40)
        self.assertEqual(found, [
            (1, [], [[(0, 0, "a"), (10, 0, "b")], [(0, 5, "c"), (10, 5, "d"), (20, 5, "e")]], [[(34, 0, "xyz")]]),
        ])
        found = self.pages('(doc (p "a" (f "xyz") " b c d"))', width=1, gutter=4, columns=2, height=21)
        self.assertEqual(found, [
            (1, [[(0, 0, "xyz")]], [[(11, 0, "a")], [(11, 5, "b")]], []), (2, [], [[(0, 0, "c")], [(0, 5, "d")]], []),
        ])

    def test_spaces_between_paragraphs(self):
        sheet = BASE + "\np { above 3; below 5 }\np.m { above 8 }"
        document = '(doc (p "a b") (p "c") (p.m "d"))'
        self.assertEqual(self.pages(document, sheet, width=1)[0][2], [
            [(0, 0, "a"), (10, 0, "b"), (25, 0, "c"), (43, 0, "d")],
        ])
        self.assertEqual([page[2] for page in self.pages(document, sheet, width=1, height=35)], [
            [[(0, 0, "a"), (10, 0, "b"), (25, 0, "c")]], [[(0, 0, "d")]],
        ])
        found = self.pages(document, sheet, width=1, height=30, columns=2, gutter=1, uneven=0)
        self.assertEqual(found[0][2], [[(0, 0, "a"), (10, 0, "b")], [(0, 2, "c"), (18, 2, "d")]])

    def test_lines_of_several_heights(self):
        sheet = BASE + "\np.m { lead 17; above 2 }\nn.m { lead 5 }\nf.m { lead 9 }"
        document = '(doc (p "a" (f.m "v w") (f "x") (n.m "y z") (n "u")) (p.m "b c") (p "d e"))'
        self.assertEqual(self.pages(document, sheet, width=1, height=200), [(
            1, [[(0, 0, "v"), (9, 0, "w")], [(18, 0, "x")]],
            [[(29, 0, "a"), (41, 0, "b"), (58, 0, "c"), (75, 0, "d"), (85, 0, "e")]],
            [[(184, 0, "y"), (189, 0, "z")], [(194, 0, "u")]],
        )])
        document = '(doc (p "a") (p.m "b c") (p "d e"))'
        self.assertEqual(self.pages(document, sheet, width=1, gutter=0, columns=2, height=46), [
            (1, [], [[(0, 0, "a"), (12, 0, "b")], [(0, 1, "c"), (17, 1, "d"), (27, 1, "e")]], []),
        ])

    def test_stretched_lines_and_indents(self):
        sheet = BASE + "\np { indent 2 }"
        result = self.set('(doc (p "ab cd ef gh"))', sheet, width=8)
        self.assertEqual(result[2][0][2][0][0], (0, letters(2, "ab") + letters(6, "cd")))
        self.assertEqual(result[2][0][2][0][1], (10, letters(0, "ef") + letters(3, "gh")))

    def test_the_numbers_of_the_pages(self):
        for first in (1, 7, 99, 9000):
            found = self.pages('(doc (p "a") (p "b") (p "c"))', height=10, first=first)
            self.assertEqual([page[0] for page in found], [first, first + 1, first + 2])

    def test_kinds_of_values(self):
        result = self.set('(doc (p "a" (n "x") (f "y")) (p "b" @t) (p #t "c"))', height=20, columns=2)
        self.assertIs(type(result), tuple)
        self.assertIs(type(result[1]), tuple)
        self.assertIs(type(result[2]), tuple)
        for page in result[2]:
            self.assertIs(type(page), tuple)
            self.assertEqual(len(page), 4)
            self.assertEqual(len(page[2]), 2)
            for group in page[1:]:
                self.assertIs(type(group), tuple)
                for lines in group:
                    self.assertIs(type(lines), tuple)
                    for line in lines:
                        self.assertIs(type(line), tuple)
                        self.assertIs(type(line[1]), tuple)
        result = self.set('(doc (p "a" @t #t))', height=9)
        self.assertIs(type(result[1]), tuple)

    def test_drawn_settings(self):
        source = random.Random(74)
        outcomes = {}
        for _ in range(250):
            root, sheet, faces, settings = random_setting(source)
            result, labels, cells = plain_set(root, tuple(sheet), faces, settings)
            self.assertEqual(set_document(root, sheet, faces, settings), result)
            self.assertEqual(set_document(root, sheet, faces, settings, forward=True), result)
            self.assertEqual(label_pages(root, sheet, faces, settings), labels)
            self.assertEqual(cells_of(root, sheet, faces, settings), cells)
            key = len(result[2]) if result[0] == "pages" else "unset"
            outcomes[key] = outcomes.get(key, 0) + 1
        for key in ("unset", 0, 1, 2, 3):
            self.assertGreater(outcomes.get(key, 0), 5, outcomes)

    def test_arguments_stay(self):
        root = read_document('(doc (p "ab " @t) (p "c" #t))')
        sheet, settings = Sheet.read(BASE), Settings(height=10)
        faces = dict(FACES)
        before = (sheet.text(), settings.data(), faces["plain"].data())
        result = set_document(root, sheet, faces, settings)
        self.assertEqual((sheet.text(), settings.data(), faces["plain"].data()), before)
        self.assertEqual(faces, FACES)
        cells_of(root, sheet, faces, settings).clear()
        label_pages(root, sheet, faces, settings).clear()
        self.assertEqual(set_document(root, sheet, faces, settings), result)


class LabelPagesTest(unittest.TestCase):
    def labels(self, document, **given):
        return label_pages(read_document(document), Sheet.read(BASE), FACES, Settings(**given))

    def test_no_labels(self):
        self.assertEqual(self.labels("(doc)"), [])
        self.assertEqual(self.labels('(doc "a")'), [])
        self.assertEqual(self.labels("(doc #a)"), [])
        self.assertEqual(self.labels('(doc "a" (n #b "b") (f #c "b") (x #d "b"))'), [])

    def test_labels(self):
        self.assertEqual(self.labels('(doc #b "a" #a)'), [("b", 1), ("a", 1)])
        document = '(doc #b (p "a") #a (p #b "c" #c) #d)'
        self.assertEqual(self.labels(document), [("b", 1), ("a", 1), ("b", 1), ("c", 1), ("d", 1)])
        self.assertEqual(
            self.labels(document, height=10, first=9), [("b", 9), ("a", 10), ("b", 10), ("c", 10), ("d", 10)]
        )

    def test_unset(self):
        self.assertIsNone(self.labels('(doc #b "a" #a)', height=9))
        self.assertIsNone(self.labels('(doc "a")', height=9))


class CellsTest(unittest.TestCase):
    def cells(self, document, sheet=BASE, faces=FACES, **given):
        root = read_document(document)
        found = cells_of(root, Sheet.read(sheet), faces, Settings(**given))
        self.assertEqual(found, plain_set(root, tuple(Sheet.read(sheet)), faces, Settings(**given))[2])
        self.assertEqual(len(found), len(set(found)))
        return found

    def stages(self, document, sheet=BASE, **given):
        return [stage for stage, _ in self.cells(document, sheet, **given)]

    def test_without_text(self):
        self.assertEqual(self.cells("(doc)", ""), [
            ("values", (INITIAL, ())), ("pages", ((), (200, 1, 4, 4, 1, 50, 1))),
        ])

    def test_one_line(self):
        self.assertEqual(self.cells('(doc "ab")', "doc { size 1; lead 10 }", width=9), [
            ("values", (INITIAL, (("size", 1), ("lead", 10)))),
            ("pieces", ((("text", "ab", 1, "plain"),), (
                ("letter", "plain", "a", 1), ("letter", "plain", "b", 1), ("pair", "plain", "a", "b", 0),
            ))),
            ("lines", (((2,), ()), (9, 0, "both", 50, 100, 0, 2))),
            ("pages", (((10, 0, True, (), ()),), (200, 1, 4, 4, 1, 50, 1))),
        ])

    def test_values_cells(self):
        sheet = "doc { size 1 }\nx { place none }\nb { face bold; size 3/1! }"
        small = (1,) + INITIAL[1:]
        cells = self.cells("(doc (b (s) (s)) (x (y (b))) (s) (b.m (x)))", sheet)
        self.assertEqual(cells[:-1], [
            ("values", (INITIAL, (("size", 1),))),
            ("values", (small, (("size", (3, 1)), ("face", "bold")))),
            ("values", ((3, 12, "bold") + INITIAL[3:], ())),
            ("values", (small, (("place", "none"),))),
            ("values", (small, ())),
            ("values", ((3, 12, "bold") + INITIAL[3:], (("place", "none"),))),
        ])

    def test_values_of_parts_in_parts_that_are_left_out(self):
        sheet = "x { place none }\nn { place note }\nb { face bold }"
        none = ("values", (INITIAL, (("place", "none"),)))
        bold = ("values", (INITIAL, (("face", "bold"),)))
        note = ("values", (INITIAL, (("place", "note"),)))
        below = ("values", (INITIAL[:5] + ("note",) + INITIAL[6:], (("place", "none"),)))
        root = ("values", (INITIAL, ()))
        self.assertEqual(self.cells("(doc (x (b)))", sheet)[:-1], [root, none])
        self.assertEqual(self.cells("(doc (x (b)) (b))", sheet)[:-1], [root, none, bold])
        self.assertEqual(self.cells("(doc (n (x (b))))", sheet)[:-1], [root, note, below])
        # The place of the root itself does not matter.
        self.assertEqual(len(self.cells("(x (b))", sheet)[:-1]), 2)

    def test_the_order(self):
        self.assertEqual(self.stages('(doc (p "a" (f "xyz") (n "yxyx")) (p "bc"))'), [
            "values", "values", "values", "values",
            "pieces", "lines", "pieces", "lines", "pieces", "lines", "pieces", "lines", "pages",
        ])
        cells = self.cells('(doc (p "a" (f "xyz") (n "yxyx")) (p "bc"))')
        pieces = [key[0][0][1] for stage, key in cells if stage == "pieces"]
        self.assertEqual(pieces, ["a", "bc", "yxyx", "xyz"])

    def test_each_cell_once(self):
        self.assertEqual(self.stages('(doc (p "a") (p "a") (p "b"))').count("pieces"), 2)
        # All three rows are alike, though their letters differ.
        self.assertEqual(self.stages('(doc (p "a") (p "a") (p "b"))').count("lines"), 1)
        self.assertEqual(self.stages('(doc (p "a") (p "a") (p "b"))').count("values"), 2)

    def test_several_assignments(self):
        document = '(doc (p "ab " @t) (p "ef" #t))'
        cells = self.cells(document, width=6, height=10, near="x", first=9)
        tried = [key[0][1][2] for stage, key in cells if stage == "pieces" and key[0][1:2] and key[0][1][0] == "shown"]
        self.assertEqual(tried, ["x", "p0", "p00", "p10"])
        # The galleys of all assignments are equal, and so are the second paragraphs.
        self.assertEqual([stage for stage, _ in cells], [
            "values", "values",
            "pieces", "lines", "pieces", "lines", "pages",
            "pieces", "lines",
            "pieces", "lines",
            "pieces",
        ])

    def test_the_last_pieces_cells(self):
        # Near references show nothing new in the end.
        self.assertEqual(self.stages('(doc (p "ab " @t) (p #t "ef"))', near="x").count("pieces"), 2)
        document = '(doc (p "a" @t) (p "b" @u) (p "c") (p #t #u "d"))'
        cells = self.cells(document, height=10, near="x")
        texts = [[run[2] for run in key[0] if run[0] == "shown"] for stage, key in cells if stage == "pieces"]
        self.assertEqual(texts[-2:], [["p4"], ["p4"]])
        self.assertEqual([key[0][0][1] for _, key in cells[-2:]], ["a", "b"])

    def test_unset_settings_have_no_last_pieces(self):
        document = '(doc (p.l "ab " @t " cd" #t))'
        cells = self.cells(
            document, BASE + "\np.l { align left }", width=5, height=20, near="xxxx", far="p"
        )
        texts = [run[2] for stage, key in cells if stage == "pieces" for run in key[0] if run[0] == "shown"]
        self.assertEqual(texts, ["xxxx", "p0", "p00"])
        # The third galley is equal to the first one.
        self.assertEqual([stage for stage, _ in cells].count("pages"), 2)
        self.assertEqual(cells[-1][0], "lines")

    def test_faults(self):
        faces = {"plain": Face({char: (1, ()) for char in "0123456789-ab"}), "bold": Face.even(1)}
        found = self.cells('(doc (p "a") (p "z") (p "b"))', faces=faces)
        self.assertEqual([stage for stage, _ in found], ["values", "values", "pieces", "lines"])
        self.assertEqual(self.stages('(doc (p "a") (p "zzzz") (p "b"))', width=3), [
            "values", "values", "pieces", "lines", "pieces", "lines",
        ])
        self.assertEqual(self.stages('(doc (p "a"))', height=9), ["values", "values", "pieces", "lines", "pages"])
        self.assertEqual(self.stages('(doc (p "a") (p "b"))', height=10, most=1)[-1], "pages")
        found = self.cells('(doc (p "a" (n "zz") (f "yyyyy")))', width=1, columns=2, gutter=1)
        self.assertEqual(found[-1], ("lines", (((5,), ()), (3, 0, "both", 50, 100, 0, 2))))

    def test_the_faults_of_several_assignments(self):
        faces = {"plain": Face({char: (1, ()) for char in "0123456789-abpo"}), "bold": Face.even(1)}
        found = self.cells('(doc (p "a" @t) (p "b" #t))', faces=faces, near="x", far="oo", width=4)
        # Near lacks a letter at once, the first far one breaks, the second one is too wide.
        self.assertEqual([stage for stage, _ in found], [
            "values", "values", "pieces", "lines", "pieces", "lines", "pages", "pieces", "lines",
        ])


if __name__ == "__main__":
    unittest.main()
