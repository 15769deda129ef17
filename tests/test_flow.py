"""Points 36 and 37: the flow of a document."""

import random
import unittest

from stylepages.sheets.sheet import Sheet
from stylepages.tree.notation import read_document
from stylepages.words.flow import flow
from tests.plain_words import plain_flow
from tests.support import nested

PLACES = "b { place block }\nn { place note }\nf { place float }\nx { place none }"
STYLE = ("both", 0, 12, 1, "no", 0, 0)


def text(words, size=2, face="plain"):
    return ("text", words, size, face)


class FlowTest(unittest.TestCase):
    def flow(self, document, sheet=PLACES, **given):
        return flow(read_document(document), Sheet.read(sheet), **given)

    def paragraphs(self, document, sheet=PLACES):
        return [runs for runs, _ in self.flow(document, sheet)[0]]

    def check(self, document, *paragraphs):
        self.assertEqual(self.paragraphs(document), list(paragraphs))

    def test_the_example(self):
        found = self.flow('(doc (p "ab|c d" (n "x")))', "p { place block }\nn { place note }")
        paragraph = ((("text", "ab|c d", 2, "plain"), ("mark", "note", 0)), STYLE)
        self.assertEqual(found, ((paragraph,), (((text("x"),), STYLE),), (), (), ()))

    def test_nothing(self):
        nothing = ((), (), (), (), ())
        for document in (
            "(doc)", '(doc " " "|| |")', "(doc #a)", '(doc (n "x") (f "y") #a)', '(doc (x "a" #b @b))',
            '(doc (b " |") (b (n "a")))', '(doc (n @a) #a)',
        ):
            self.assertEqual(self.flow(document, lost="z"), nothing)

    def test_kinds_of_values(self):
        found = self.flow('(doc "a" #b @b (n "x") (f "y"))')
        self.assertIsInstance(found, tuple)
        for part in found:
            self.assertIsInstance(part, tuple)
        for rows in found[:3]:
            for runs, style in rows:
                self.assertIsInstance(runs, tuple)
                self.assertIsInstance(style, tuple)

    def test_lines(self):
        self.check('(doc "a" (l "b" (m "c")) "d")', (text("abcd"),))

    def test_blocks(self):
        self.check('(doc "a" (b "b") "c")', (text("a"),), (text("b"),), (text("c"),))
        self.check('(doc (b "b") (b "c"))', (text("b"),), (text("c"),))
        self.check('(doc (b "a" (b "b") "c") "d")', *[(text(word),) for word in "abcd"])
        self.check('(doc "a" (l "b" (b "c") "d") "e")', (text("ab"),), (text("c"),), (text("de"),))
        self.check('(doc (b (b (b "a"))))', (text("a"),))

    def test_left_out_parts(self):
        self.check('(doc "a" (x "b" (b "c") (n "d") #e) "f")', (text("af"),))
        self.check('(doc (b "a" (x "b") "c"))', (text("ac"),))
        self.check('(doc (x (l "a")) (l (x "b") "c"))', (text("c"),))

    def test_the_place_of_the_root(self):
        for place in ("block", "line", "none", "note", "float"):
            sheet = "doc { place " + place + "; above 7 }\nb { place block }"
            found = self.flow('(doc "a" (l "c") (b "d") @e)', sheet)
            style = ("both", 0, 12, 1, "no", 7, 0)
            rows = (((text("ac"),), style), ((text("d"),), STYLE), ((text("?"),), style))
            self.assertEqual(found, (rows, (), (), (), ()))

    def test_styles_by_owner(self):
        sheet = PLACES + "\ndoc { above 1; lead 20 }\nb { below 2; keep yes }\nb.m { indent 3; align left }\n"
        sheet += "l { above 9; lead 30; size 5 }\nn { least 3; lead 3/2 }"
        found = self.flow('(doc "a" (b "b" (b.m "c" (l "d" (b "e"))) "f" (l "g")) (n "h") "i")', sheet)
        self.assertEqual([style for _, style in found[0]], [
            ("both", 0, 20, 1, "no", 1, 0), ("both", 0, 20, 1, "yes", 0, 2), ("left", 3, 20, 1, "yes", 0, 2),
            ("left", 0, 30, 1, "yes", 0, 2), ("both", 0, 20, 1, "yes", 0, 2), ("both", 0, 20, 1, "no", 1, 0),
        ])
        self.assertEqual(found[1], (((text("h"),), ("both", 0, 3, 3, "no", 0, 0)),))
        self.assertEqual(found[0][2][0], (text("c"), text("d", 5)))
        self.assertEqual(found[0][3][0], (text("e", 5),))

    def test_texts_that_are_joined(self):
        self.check('(doc "a" " b" (l "c") (x "y") "d")', (text("a bcd"),))
        self.check('(doc "a" #m "b" (n " ") "c" (x #n) "d")', (text("a"), ("mark", "label", 0), text("bcd")))
        self.check('(doc "a" @m "b")', (text("a?b"),))
        self.check('(doc (n "p") "a" (f "q") "b")', (("mark", "note", 0), text("a"), ("mark", "float", 0), text("b")))
        long = '"' + "y" * 60 + '"'
        self.check("(doc " + " ".join([long] * 6) + ")", (text("y" * 360),))

    def test_sizes_and_faces(self):
        sheet = "em { size 3 }\nst { face bold }\nsame { size 2 }"
        self.assertEqual(
            self.paragraphs('(doc "a" (em "b" (st "c")) (st "d" @m) (same "e" "f") "g")', sheet),
            [(text("a"), text("b", 3), text("c", 3, "bold"), text("d?", 2, "bold"), text("efg"))],
        )

    def test_labels(self):
        found = self.flow('(doc #a "x" (l #b) (b #a "y") (n #c "n" #d) (f "f" #e) (x #g) #h)')
        self.assertEqual(found[3], ("a", "b", "a", "h"))
        self.assertEqual(found[0][0][0], (("mark", "label", 0), text("x"), ("mark", "label", 1)))
        self.assertEqual(found[0][1][0][:2], (("mark", "label", 2), text("y")))

    def test_references(self):
        found = self.flow('(doc @b "x" #a @a #b @a #a)')
        self.assertEqual(found[3:], (("a", "b", "a"), (1, 0, 0)))
        self.assertEqual(found[0][0][0], (
            ("ref", 0, 2, "plain"), text("x"), ("mark", "label", 0), ("ref", 1, 2, "plain"), ("mark", "label", 1),
            ("ref", 2, 2, "plain"), ("mark", "label", 2),
        ))

    def test_references_that_are_lost(self):
        found = self.flow('(doc @c (n "n" #c) @d #d (l @z))', PLACES + "\nl { size 4 }", lost="no|pe ")
        self.assertEqual(found[4], (0,))
        self.assertEqual(found[0][0][0], (
            text("no|pe "), ("mark", "note", 0), ("ref", 0, 2, "plain"), ("mark", "label", 0), text("no|pe ", 4),
        ))
        self.assertEqual(found[1][0][0], (text("n"),))
        for inner in ("(n #c)", "(f #c)", "(x #c)", "(x (l #c))", '(n "a" (l #c))'):
            self.assertEqual(self.flow("(doc @c " + inner + ")")[0][0][0][0], text("?"))
        for inner in ("#c", "(l #c)", "(b #c)", "(b (l #c))"):
            self.assertEqual(self.flow("(doc @c " + inner + ")")[4], (0,))

    def test_a_lost_reference_is_a_letter(self):
        self.check("(doc (b @q))", (text("?"),))
        self.check("(doc (b @q) #q)", (("ref", 0, 2, "plain"), ("mark", "label", 0)))

    def test_notes_and_floats(self):
        found = self.flow('(doc "a" (n "b" (b "c") (x "d") (n "e" (f " f")) #m @m) (f (l "g")) (n "h"))')
        self.assertEqual(found[1], (((text("bce f"),), STYLE), ((text("h"),), STYLE)))
        self.assertEqual(found[2], (((text("g"),), STYLE),))
        self.assertEqual(found[0][0][0], (
            text("a"), ("mark", "note", 0), ("mark", "float", 0), ("mark", "note", 1),
        ))
        self.assertEqual(found[3:], ((), ()))

    def test_notes_and_floats_without_letters(self):
        found = self.flow('(doc "a" (n " |") (f) (n (x "y")) (n @a #b) (n (l " ") "z"))')
        self.assertEqual(found, ((((text("a"), ("mark", "note", 0)), STYLE),), (((text(" z"),), STYLE),), (), (), ()))

    def test_sizes_in_notes(self):
        found = self.flow('(doc "a" (n "b" (em "c" "d") "e"))', PLACES + "\nn { size 1; face bold }\nem { size 4 }")
        self.assertEqual(found[1][0][0], (text("b", 1, "bold"), text("cd", 4, "bold"), text("e", 1, "bold")))

    def test_marks_of_paragraphs_without_letters(self):
        self.check('(doc #a (b "x"))', (("mark", "label", 0), text("x")))
        self.check('(doc (b "x") #a)', (text("x"), ("mark", "label", 0)))
        self.check('(doc " " #a (b (n "n") "|") (b #b "x") " " #c (b #a) (f "f"))', (
            ("mark", "label", 0), ("mark", "note", 0), ("mark", "label", 1), text("x"), ("mark", "label", 2),
            ("mark", "label", 3), ("mark", "float", 0),
        ))
        self.check('(doc (b "x") (b #a) (b "y") #b)', (text("x"),), (("mark", "label", 0), text("y"), ("mark", "label", 1)))

    def test_deep_documents(self):
        deep = nested(20, ("a", ("#", "m")))
        self.assertEqual(flow(deep, Sheet([]))[3], ("m",))
        self.assertEqual(flow(deep, Sheet.read("p p { place block }"))[0][0][0][0], text("a"))

    def test_against_a_plain_reading(self):
        source = random.Random(37)
        kinds = "abcdef"

        def part(depth):
            items = []
            for _ in range(source.randint(1, 5)):
                choice = source.randint(0, 9)
                if choice < 3 or (choice > 5 and depth == 1):
                    items.append(source.choice(["x", " y", " ", "|", "a|b", "zz "]))
                elif choice < 5:
                    items.append(("#", source.choice("mno")))
                elif choice == 5:
                    items.append(("@", source.choice("mnoq")))
                else:
                    items.append(part(depth - 1))
            return (source.choice(kinds), (), tuple(items))

        shown = 0
        for _ in range(400):
            root = part(5)
            rules = []
            for kind in kinds:
                place = source.choice(["block", "block", "block", "line", "line", "none", "note", "float"])
                declarations = [("place", place, False)]
                if source.random() < 0.5:
                    name, value = source.choice(
                        [("size", 3), ("size", (3, 2)), ("face", "bold"), ("above", 5), ("indent", (2, 1)), ("keep", "yes")]
                    )
                    declarations.append((name, value, False))
                rules.append(((("", kind, ()),), tuple(declarations)))
            expected = plain_flow(root, rules, "lo st")
            self.assertEqual(flow(root, Sheet(rules), lost="lo st"), expected)
            shown += len(expected[0]) > 1 and len(expected[1]) > 0
        self.assertGreater(shown, 30)


if __name__ == "__main__":
    unittest.main()
