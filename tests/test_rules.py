"""Points 17, 19 and 21: the written form of rules."""

import random
import unittest

from stylepages.errors import BadRule
from stylepages.sheets.rules import read_rule, write_rule
from tests.support import PRINTABLE, TABLE

EXAMPLE = ((("", "p", ("big",)), (">", "*", ())), (("size", (6, 5), False), ("face", "bold", True)))
WRITTEN = "p.big > * { size 6/5; face bold! }"


def all_values(name):
    span, words, ratios, _, _ = TABLE[name]
    values = list(words) + ["same", "first"]
    if span:
        values += [span[0], span[1]]
    return values + ([(1, 99), (99, 1), (3, 2), (10, 13)] if ratios else [])


def random_rule(source):
    selector = []
    for at in range(source.randint(1, 4)):
        marks = tuple(sorted(source.sample(["a", "b", "p", "abcdefgh"], source.randint(0, 3))))
        selector.append((source.choice([" ", ">"]) if at else "", source.choice(["*", "p", "doc"]), marks))
    declarations = []
    for _ in range(source.randint(1, 6)):
        name = source.choice(list(TABLE))
        declarations.append((name, source.choice(all_values(name)), source.random() < 0.5))
    return (tuple(selector), tuple(declarations))


class RulesTest(unittest.TestCase):
    def refuse(self, line):
        with self.assertRaises(BadRule, msg=line) as caught:
            read_rule(line)
        self.assertEqual(caught.exception.line, 0)

    def test_example(self):
        self.assertEqual(write_rule(EXAMPLE), WRITTEN)
        self.assertEqual(read_rule(WRITTEN), EXAMPLE)

    def test_four_steps_and_six_declarations(self):
        steps = (("", "a", ()), (" ", "*", ("x", "y", "z")), (">", "b", ("m",)), (" ", "*", ()))
        rows = (
            ("size", 1, True), ("size", "same", False), ("lead", 99, False), ("place", "float", True),
            ("keep", "first", False), ("below", 0, True),
        )
        line = "a *.x.y.z > b.m * { size 1!; size same; lead 99; place float!; keep first; below 0! }"
        self.assertEqual(write_rule((steps, rows)), line)
        self.assertEqual(read_rule(line), (steps, rows))

    def test_every_value(self):
        for name in TABLE:
            for value in all_values(name):
                for strong in (False, True):
                    rule = ((("", "*", ()),), ((name, value, strong),))
                    self.assertEqual(read_rule(write_rule(rule)), rule)
                    self.assertIs(read_rule(write_rule(rule))[1][0][2], strong)

    def test_there_and_back(self):
        source = random.Random(21)
        for _ in range(500):
            rule = random_rule(source)
            self.assertEqual(read_rule(write_rule(rule)), rule)

    def test_selectors_that_are_none(self):
        for head in (
            "", " ", ">", "> p", " > p", "p >", "p > > q", "p >q", "p> q", "p>q", "p  q", " p", "p ", "p +  q",
            "a b c d e", "a > b > c > d > e", "p.", ".p", "p..a", "p.b.a", "p.a.a", "p.a.b.c.d", "p.*", "**", "P",
            "p1", "abcdefghi", "p.abcdefghi", "*.A", "p,q", "p\n", "p.a.", "> > p", "p > q >",
        ):
            self.refuse(head + " { size 3 }")

    def test_declarations_that_are_none(self):
        for body in (
            "", " ", "size", "size ", "size  3", " size 3", "size 3 ", "size 03", "size 00", "size +3", "size -3",
            "size 0", "size 13", "size 3!!", "size !", "size 3 !", "size! 3", "size 3;", "size 3; ", "size 3;lead 3",
            "size 3;  lead 3", "size 3 ; lead 3", "; size 3", "size plain", "face 1", "face plain/bold", "face 1/2",
            "least 1/2", "place 1/2", "keep 1/1", "align 2/1", "size 0/1", "size 1/0", "size 100/1", "size 1/100",
            "size 01/2", "size 1/02", "size 1/2/3", "size 1/", "size /2", "size /", "size -1/2", "size 1 /2",
            "size (1, 2)", "Size 3", "sizes 3", "width 3", "width same", " same", "sizes first!", "size Same", "size same first", "lead 0", "lead 100",
            "least 5", "indent 100", "indent -0", "keep maybe", "size 3\n", "size\n3", "size 3.0", "size 1_0",
            "; ".join(["size 3"] * 7), "size 999999999999999999999999", "face bold!; ", "size 3}", "{ size 3",
        ):
            self.refuse("p { " + body + " }")
        self.refuse("p {}")
        self.refuse("p { }")

    def test_lines_that_are_none(self):
        for line in (
            "", "p", "{ size 3 }", " { size 3 }", "p { size 3", "p size 3 }", "p {size 3 }", "p { size 3}",
            "p{ size 3 }", "p  { size 3 }", "p { size 3 } ", " p { size 3 }", "p { size 3 }\n", "\np { size 3 }",
            "p { size 3 } }", "p { { size 3 }", "p { size 3 } { size 3 }", "p { size 3 }x", WRITTEN + WRITTEN,
            "p { size 3 }\np { size 3 }", "}", "{", " { ", " { }", "{ }",
        ):
            self.refuse(line)

    def test_long_lines(self):
        for line in ("p" * 1000, "p " * 500, "> " * 500, " { " * 333, "p { " + "size 3; " * 120 + "size 3 }",
                     "p" + ".a" * 499, "9" * 1000, "p { size " + "9" * 900 + " }", "p { size 1/" + "9" * 900 + " }"):
            self.refuse(line)

    def test_a_changed_sign_is_never_read_as_the_same(self):
        for at in range(len(WRITTEN)):
            for sign in PRINTABLE + "\n":
                line = WRITTEN[:at] + sign + WRITTEN[at + 1:]
                try:
                    rule = read_rule(line)
                except BadRule:
                    continue
                self.assertEqual(write_rule(rule), line)


if __name__ == "__main__":
    unittest.main()
