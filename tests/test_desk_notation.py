"""Point 85: the written form of desk edits."""

import random
import unittest

from stylepages.desk.notation import read_edit, write_edit
from stylepages.errors import BadEdit
from tests.support import PRINTABLE, TEXT_SIGNS, nested, random_document
from tests.test_rules import random_rule

EM = ("em", ("red",), ("you",))
BOX = (0, 0, (("line", 4, 0), ("flat", 4, 4), ("line", -8, 0), ("line", 0, -4)))
RULE = ((("", "p", ("big",)),), (("size", 3, False),))
EXAMPLES = {
    'put 0/1 (em.red "you")': ("put", (0, 1), EM),
    "kind / doc": ("kind", (), "doc"),
    "wrap 0/0 2 em -": ("wrap", (0, 0), 2, "em", ()),
    "rule 0 p.big { size 3 }": ("rule", 0, RULE),
    "letter plain x 5 (0 0 line 4 0 flat 4 4 line -8 0 line 0 -4)": ("letter", "plain", "x", (5, (BOX,))),
    "kern bold To none": ("kern", "bold", "To", None),
    'set near "here"': ("set", "near", "here"),
}
OTHERS = {
    "take 0": ("take", (0,)),
    "take /": ("take", ()),
    'put / "x"': ("put", (), "x"),
    "put 3 #top": ("put", (3,), ("#", "top")),
    "put 3 @top": ("put", (3,), ("@", "top")),
    'text 1 " (a) "': ("text", (1,), " (a) "),
    "marks 0 -": ("marks", (0,), ()),
    "marks 0 a.b.c": ("marks", (0,), ("a", "b", "c")),
    "marks / big": ("marks", (), ("big",)),
    "wrap 0/1/2/3/4/5/6/7 0 q a.b": ("wrap", (0, 1, 2, 3, 4, 5, 6, 7), 0, "q", ("a", "b")),
    "wrap 999999 999999 q -": ("wrap", (999999,), 999999, "q", ()),
    "open 0/0/0/0/0/0/0/0": ("open", (0,) * 8),
    "unrule 0": ("unrule", 0),
    "unrule 999999": ("unrule", 999999),
    "rule 999999 * { size 3! }": ("rule", 999999, ((("", "*", ()),), (("size", 3, True),))),
    "letter bold ( none": ("letter", "bold", "(", None),
    "letter plain - 30": ("letter", "plain", "-", (30, ())),
    "letter plain ' 1 (-20 40 line 20 -20)": ("letter", "plain", "'", (1, ((-20, 40, (("line", 20, -20),)),))),
    "letter bold x 5 (0 0 steep -12 12) (40 -20 line 0 1) (1 1 line 1 0)": (
        "letter", "bold", "x",
        (5, ((0, 0, (("steep", -12, 12),)), (40, -20, (("line", 0, 1),)), (1, 1, (("line", 1, 0),)))),
    ),
    "kern plain () 0": ("kern", "plain", "()", 0),
    "kern plain -- 9": ("kern", "plain", "--", 9),
    "set width 0": ("set", "width", 0),
    "set width 999999": ("set", "width", 999999),
    "set width -999999": ("set", "width", -999999),
    "set width -1": ("set", "width", -1),
    "set other 5": ("set", "other", 5),
    'set none "none"': ("set", "none", "none"),
    'set near " |a| "': ("set", "near", " |a| "),
}
BAD = [
    "", " ", "put", "undo", "redo", "Take 0", "take", "take ", "take  0", " take 0", "take 0 ", "take 0\n", "\ntake 0",
    "take 0 0", "take 00", "take 01", "take -1", "take -0", "take +1", "take 1000000", "take 0/1000000", "take 0/",
    "take /0", "take //", "take 0//1", "take 0/01", "take a", "take 0,1", "take 0/0/0/0/0/0/0/0/0", "take 1_0",
    "move 0", "takes 0", "open", "open 0 1", 'text 0 ""', "text 0 x", 'text 0 "x', 'text 0 x"', 'text 0 "', 'text 0 ',
    'text  0 "x"', 'text 0  "x"', 'text 0 "x" ', 'text 0 "x"y', 'text 0 "a-b"', 'text 0 "a"b"', "text 0 #top",
    'text 0 (p "x")', 'text 0 "a\nb"', 'text 0 "' + "x" * 61 + '"', "put 0", "put 0 ", "put 0 x", "put 0 (p", "put 0 p)",
    'put 0 (p  "x")', 'put 0 "x" ', 'put 0 "x" "y"', "put 0 (p) (q)", "put 0 #", "put 0 #Top", "put 0 # top",
    "put 0 " + "(p " * 6 + "(p)" + ")" * 6, "put 0 (p" + " #a" * 13 + ")", "put 0 (p" + " @a" * 4 + ")",
    "put 0 (p.b.a)", "put -1 (p)", "put (p)", "kind 0", "kind 0 ", "kind 0 P", "kind 0 *", "kind 0 abcdefghi",
    "kind 0 p q", "kind p", "kind 0 -", "marks 0", "marks 0 ", "marks 0 a.b.c.d", "marks 0 b.a", "marks 0 a.a",
    "marks 0 a.", "marks 0 .a", "marks 0 --", "marks 0 - ", "marks 0 a b", "marks 0 A", "marks - -",
    "wrap 0 0 p", "wrap 0 p -", "wrap 0 0 - -", "wrap 0 -1 p -", "wrap 0 01 p -", "wrap 0 1000000 p -",
    "wrap 0 0 p - -", "wrap 0 0 p  -", "wrap 0  0 p -", "rule 0", "rule 0 ", "rule 0 p", "rule p { size 3 }",
    "rule -1 p { size 3 }", "rule 00 p { size 3 }", "rule 1000000 p { size 3 }", "rule 0  p { size 3 }",
    "rule 0 p { size 3 } ", "rule 0 p { size 13 }", "rule 0/1 p { size 3 }", "rule / p { size 3 }", "unrule",
    "unrule /", "unrule -1", "unrule 1000000", "unrule 0 0", "unrule 0/0", "letter plain x", "letter plain x ",
    "letter plain xy 5", "letter plain  5", "letter plain | 5", "letter plain \" 5", "letter Plain x 5",
    "letter thin x 5", "letter x 5", "letter plain x 0", "letter plain x 31", "letter plain x 05", "letter plain x -5",
    "letter plain x None", "letter plain x none ", "letter plain x none 5", "letter plain x  5", "letter plain x 5 ",
    "letter plain x (0 0 line 4 0)", "letter plain x 5 ()", "letter plain x 5 (0)", "letter plain x 5 (0 0)",
    "letter plain x 5 (0 0 line)", "letter plain x 5 (0 0 line 4)", "letter plain x 5 (0 0 line 4 0",
    "letter plain x 5 0 0 line 4 0)", "letter plain x 5 (0 0 line 4 0))", "letter plain x 5 ((0 0 line 4 0)",
    "letter plain x 5 (0 0 line 4 0)(0 0 line 4 0)", "letter plain x 5 (0 0 line 4 0)  (0 0 line 4 0)",
    "letter plain x 5 (0 0 line 4 0) ", "letter plain x 5  (0 0 line 4 0)", "letter plain x 5(0 0 line 4 0)",
    "letter plain x 5 ( 0 0 line 4 0)", "letter plain x 5 (0 0 line 4 0 )", "letter plain x 5 (0  0 line 4 0)",
    "letter plain x 5 (0 0 line 4 00)", "letter plain x 5 (0 0 line 4 -0)", "letter plain x 5 (00 0 line 4 0)",
    "letter plain x 5 (0 0 line 0 0)", "letter plain x 5 (0 0 line 21 0)", "letter plain x 5 (0 0 line 0 -21)",
    "letter plain x 5 (-21 0 line 4 0)", "letter plain x 5 (41 0 line 4 0)", "letter plain x 5 (0 -21 line 4 0)",
    "letter plain x 5 (0 41 line 4 0)", "letter plain x 5 (0 0 flat 4 3)", "letter plain x 5 (0 0 flat 0 0)",
    "letter plain x 5 (0 0 flat 13 13)", "letter plain x 5 (0 0 steep -13 13)", "letter plain x 5 (0 0 steep 4 0)",
    "letter plain x 5 (0 0 curve 4 4)", "letter plain x 5 (0 0 line 4 0 4 4)", "letter plain x 5 (0 0 line 4,0)",
    "letter plain x 5" + " (0 0 line 4 0)" * 4, "letter plain x 5 (0 0" + " line 4 0" * 13 + ")",
    "letter plain x 5 (0 0 line 4 0)\n", "kern plain ab", "kern plain ab ", "kern plain ab 10", "kern plain ab -1",
    "kern plain ab 01", "kern plain ab None", "kern plain a 1", "kern plain abc 1", "kern plain a| 1",
    "kern plain a  1", "kern other ab 1", "kern plain ab 1 ", "kern plain  ab 1", "kern plain ab 1 1", "set width",
    "set width ", "set self 5", 'set self "x"', "set Width 5", "set widthwide 5", "set 5 5", "set width 1000000",
    "set width -1000000", "set width -0", "set width 05", "set width +5", "set width --5", "set width - 5",
    "set width 5 ", "set width  5", "set width none", "set near here", 'set near ""', 'set near "', 'set near "a-b"',
    'set near "' + "x" * 61 + '"', 'set near "x" ', 'set near "x" "y"', "set near 'x'", "set near #x", "set near (p)",
    "set width 5\n", "set",
]


def random_edit(source):
    path = tuple(source.choice([0, 7, 10, 999999]) for _ in range(source.randint(0, 8)))
    kind, marks = source.choice(["p", "abcdefgh"]), source.choice([(), ("m",), ("a", "b", "c")])
    text = "".join(source.choice(TEXT_SIGNS) for _ in range(source.randint(1, 60)))
    face, number = source.choice(["plain", "bold"]), source.choice([0, 1, 90, 999999])
    signs = TEXT_SIGNS.replace(" ", "").replace("|", "") + "-"
    outlines = []
    for _ in range(source.randint(0, 3)):
        strokes = [("line", source.randint(-20, 20), source.randint(1, 20)) for _ in range(source.randint(1, 6))]
        strokes += [("flat", 12, -12), ("steep", -1, -1)][:source.randint(0, 2)]
        outlines.append((source.randint(-20, 40), source.randint(-20, 40), tuple(strokes)))
    item = source.choice([random_document(source), text, ("#", kind), ("@", kind)])
    return source.choice([
        ("put", path, item), ("take", path), ("text", path, text), ("kind", path, kind), ("marks", path, marks),
        ("wrap", path, number, kind, marks), ("open", path), ("rule", number, random_rule(source)), ("unrule", number),
        ("letter", face, source.choice(signs), source.choice([None, (source.randint(1, 30), tuple(outlines))])),
        ("kern", face, source.choice(signs) + source.choice(signs), source.choice([None, 0, 9])),
        ("set", kind, source.choice([text, number, -number, -7])),
    ])


class NotationTest(unittest.TestCase):
    def refuse(self, line):
        with self.assertRaises(BadEdit, msg=line) as caught:
            read_edit(line)
        self.assertEqual(caught.exception.line, 0)

    def test_examples(self):
        for line, edit in list(EXAMPLES.items()) + list(OTHERS.items()):
            self.assertEqual(write_edit(edit), line)
            self.assertEqual(read_edit(line), edit)

    def test_there_and_back(self):
        source = random.Random(85)
        words = set()
        for _ in range(2000):
            edit = random_edit(source)
            words.add(edit[0])
            self.assertEqual(read_edit(write_edit(edit)), edit)
        self.assertEqual(len(words), 12)

    def test_every_letter_character(self):
        signs = (TEXT_SIGNS + "-").replace(" ", "").replace("|", "")
        for sign in PRINTABLE + "\n":
            for line, edit in (
                (f"letter plain {sign} 5", ("letter", "plain", sign, (5, ()))),
                (f"kern bold a{sign} 5", ("kern", "bold", "a" + sign, 5)),
                (f"kern bold {sign}a 5", ("kern", "bold", sign + "a", 5)),
            ):
                if sign in signs:
                    self.assertEqual(read_edit(line), edit)
                else:
                    self.refuse(line)

    def test_items_at_the_bounds(self):
        most = ("letter", "plain", "x", (5, ((0, 0, (("line", 1, 0),) * 12),) * 3))
        self.assertEqual(read_edit(write_edit(most)), most)
        for item in (nested(6), ("p", (), (("#", "a"),) * 12), ("p", (), ("x" * 50,) * 8), "x" * 60):
            edit = ("put", (0,), item)
            self.assertEqual(read_edit(write_edit(edit)), edit)

    def test_bad_lines(self):
        for line in BAD:
            self.refuse(line)

    def test_long_strings(self):
        for line in (
            "put 0 " + "(" * 4994, "put 0 " + "(a " * 1600, "take " + "0/" * 2400, "take " + "9" * 4995, "x" * 5000,
            " " * 5000, "\n" * 5000, "set width " + "9" * 4990, "set width -" + "9" * 4989, 'set near "' + "x" * 4990,
            "letter plain x 5" + " (0 0 line 4 0)" * 330, "letter plain x 5 (0 0" + " line 4 0" * 500 + ")",
            "letter plain x " + "(" * 4900, "marks 0 " + "a." * 2400, "rule 0 " + "p " * 2400, "rule " + "{ " * 2400,
            "wrap 0 0 p " + "-" * 4900, "kern plain " + "-" * 4900,
        ):
            self.refuse(line)

    def test_a_changed_sign_is_never_read_as_the_same(self):
        for line in EXAMPLES:
            for at in range(len(line)):
                for sign in "a0-/.() \"{}!#@|\n":
                    changed = line[:at] + sign + line[at + 1:]
                    try:
                        edit = read_edit(changed)
                    except BadEdit:
                        continue
                    self.assertEqual(write_edit(edit), changed)


if __name__ == "__main__":
    unittest.main()
