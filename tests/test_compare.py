"""Points 24 to 26: the comparison of sheets."""

import random
import unittest
from itertools import product

from stylepages.sheets.compare import affected_parts, first_difference, needless_rules, parting_document
from stylepages.sheets.sheet import Sheet
from stylepages.tree.notation import read_document, write_document
from tests.support import TABLE, plain_values
from tests.test_selectors import lineage_of

ENDINGS = "bcdefghijklmnopqrstuvwxyz"


def listed_pairs(one, other):
    """Point 24, in the words of the point."""
    steps = [step for sheet in (one, other) for rule in sheet for step in rule[0]]
    kinds = {step[1] for step in steps} - {"*"}
    marks = sorted({mark for step in steps for mark in step[2]})
    spares = ["a" * many for many in range(1, 9)] + ["aaaaaaa" + ending for ending in ENDINGS]
    kinds.add([kind for kind in spares if kind not in kinds][0])
    subsets = [[mark for mark, kept in zip(marks, row) if kept] for row in product((False, True), repeat=len(marks))]
    return sorted((kind, tuple(row)) for kind in kinds for row in subsets)


def plain_difference(one, other, longest):
    """Return the first difference among all listed lineages up to a length."""
    pairs = listed_pairs(one, other)
    for length in range(1, longest + 1):
        for lineage in product(pairs, repeat=length):
            left, right = plain_values(list(one), lineage), plain_values(list(other), lineage)
            for name in TABLE:
                if left[name] != right[name]:
                    return (lineage, name)
    return None


def random_sheets(source, kinds, marks):
    """Return two sheets within the bounds of point 24, often nearly equal ones."""
    ratio_name = source.choice(["size", "size", "lead", "indent", "above"])
    ratio = source.choice([(3, 2), (5, 4), (1, 2), (7, 3), (11, 10), (99, 1)])
    plain = {"size": [1, 4, 12], "lead": [1, 20], "least": [2, 3], "face": ["plain", "bold"],
             "place": ["note", "block"], "keep": ["yes", "no"], "indent": [0, 7], "above": [3]}

    def declaration():
        name = source.choice([ratio_name, ratio_name, source.choice(list(plain))])
        values = plain[name] + ["same", "first"] + ([ratio] * 2 if name == ratio_name else [])
        return (name, source.choice(values), source.random() < 0.2)

    def rule():
        steps = tuple(
            (source.choice([" ", ">"]) if at else "", source.choice(kinds + ["*"]),
             tuple(mark for mark in marks if source.random() < 0.3))
            for at in range(source.randint(1, 2))
        )
        return (steps, tuple(declaration() for _ in range(source.randint(1, 2))))

    one = [rule() for _ in range(source.randint(0, 3))]
    other = [row if source.random() < 0.8 else rule() for row in one]
    if len(other) < 3 and source.random() < 0.4:
        other.insert(source.randint(0, len(other)), rule())
    return Sheet(one), Sheet(other)


class FirstDifferenceTest(unittest.TestCase):
    def check(self, one, other, lineage, name=None):
        one, other = Sheet.read(one), Sheet.read(other)
        answer = None if lineage is None else (lineage_of(lineage), name)
        self.assertEqual(first_difference(one, other), answer)
        self.assertEqual(first_difference(other, one), answer)

    def test_no_difference(self):
        self.check("", "", None)
        self.check("p { size 3 }", "p { size 3 }", None)
        self.check("p { size 3 }", "p { size 4; size 3 }", None)
        self.check("p { size 3; lead 4 }", "p { lead 4 }\np { size 3 }", None)
        self.check("", "* { size first! }", None)
        self.check("* { size same }", "", None)
        self.check("p { place line }", "", None)
        self.check("p { keep first }", "", None)
        self.check("", "p { size 12/11 }", None)

    def test_one_pair(self):
        self.check("p { size 3 }", "", "p", "size")
        self.check("p.m { size 3 }", "", "p.m", "size")
        self.check("* { size 3 }", "", "a", "size")
        self.check("*.m { size 3 }", "", "a.m", "size")
        self.check("p { below 3; lead 4 }", "", "p", "lead")
        self.check("p { below 3; size 4 }", "p { above 3; size 4 }", "p", "above")

    def test_kinds_and_marks_in_order(self):
        self.check("p { size 3 }\nb { lead 3 }", "", "b", "lead")
        self.check("a.m { size 3 }\na.n { lead 3 }", "", "a.m", "size")
        self.check("*.m { size 3 }\nb { lead 3 }", "", "a.m", "size")

    def test_the_spare_kind(self):
        self.check("* { size 3 }\na { size 2 }", "", "aa", "size")
        self.check("* { size 3 }\na { size 2 }\naa { size 2 }", "", "aaa", "size")
        self.check("* { size 3 }\naa { size 2 }\naaa { size 2 }", "", "a", "size")
        self.check("* { size 3 }", "b { size 3 }", "a", "size")

    def test_all_short_spare_kinds_are_named(self):
        names = ["a" * many for many in range(1, 9)]
        one = Sheet.read("* { size 3 }\n" + "\n".join(name + " { size 2 }" for name in names))
        self.assertEqual(first_difference(one, Sheet([])), (lineage_of("aaaaaaab"), "size"))

    def test_the_longest_short_spare_kind(self):
        names = ["a" * many for many in range(1, 8)]
        one = Sheet.read("* { size 3 }\n" + "\n".join(name + " { size 2 }" for name in names))
        self.assertEqual(first_difference(one, Sheet([])), (lineage_of("aaaaaaaa"), "size"))

    def test_no_pair_has_more_than_three_marks(self):
        one, other = "*.a.b.c { size 3 }\n*.d { size 4! }", "*.a.b.c { size 3! }\n*.d { size 4! }"
        self.check(one, other, None)
        self.check(one.replace(".c", ""), other.replace(".c", ""), "a.a.b.d", "size")

    def test_beyond_the_bounds(self):
        self.check("a > b c { size 3 }", "a > b > c { size 3 }", "a b a c", "size")
        self.check("a b > c d { size 3 }", "a > b > c > d { size 3 }", "a aa b c d", "size")
        self.check("* { size 3/2; lead 2/1 }", "* { size 3/2; lead 6 }", "a a", "lead")

    def test_behind_several_pairs(self):
        self.check("a b { size 3 }", "", "a b", "size")
        self.check("a > b { size 3 }", "a b { size 3 }", "a aa b", "size")
        self.check("b > a { size 3 }", "b a { size 3 }", "b aa a", "size")
        self.check("c > b { size 4 }\na { size 5/4 }", "c > b { size 4 }", "c b a", "size")
        self.check("a > b { size 4 }\na > c { size 5/4 }", "a > b { size 4 }", "a b a c", "size")
        self.check("a { keep yes }\nb { keep same }", "a { keep yes }", "a b", "keep")
        self.check("a { keep yes }\nb > b { keep same }\nb { keep same }", "a { keep yes }\nb { keep same }", None)

    def test_a_difference_in_a_ratio(self):
        self.check("* { lead 6/1 }", "* { lead 12 }", None)
        self.check("* { lead 6/1 }\nb { size 3 }", "* { lead 12 }\nb { size 3 }", "b", "lead")
        self.check("* { lead 6/1 }\nb { size 3 }\na > c { size 2 }", "* { lead 12 }\na > c { size 2 }", "b", "size")
        self.check("* { indent 1/12 }\nb { size 11 }", "b { size 11 }", None)
        self.check("* { indent 1/12 }\nb { size 12 }", "b { size 12 }", "b", "indent")
        self.check("p { size 3/2 }", "p { size 3 }", "p p", "size")

    def test_growing_sizes(self):
        one = "* { size 7/6; indent 1/1 }\nb { size 6 }"
        self.check(one, "* { size 7/6; indent same }\nb { size 6 }", "a", "indent")
        growing = "* { size 3/2 }\n* > b { size 12 }"
        self.check(growing, "* { size 3/2 }\n* > b { size 3/2 }", "a b", "size")

    def test_longer_than_a_document(self):
        both = "a > b > c > d { size 4 }"
        self.check(both + "\ne > f > g > h { size 5/4 }", both, "a b c d e f g h", "size")

    def test_against_a_plain_search(self):
        source = random.Random(24)
        longest = {1: 6, 2: 5, 3: 4, 4: 3, 6: 3, 8: 2, 9: 2}
        lengths = []
        for number in range(320):
            kinds = source.choice([["a"], ["b"], ["a", "aa"], ["aa", "b"]])
            one, other = random_sheets(source, kinds, source.choice([[], [], ["m"], ["a"]]))
            reach = longest[len(listed_pairs(one, other))] if len(listed_pairs(one, other)) in longest else 2
            answer, expected = first_difference(one, other), plain_difference(one, other, reach)
            if expected is not None or answer is None:
                self.assertEqual(answer, expected, (one.text(), other.text()))
            else:
                lineage, name = answer
                self.assertGreater(len(lineage), reach)
                left, right = plain_values(list(one), lineage), plain_values(list(other), lineage)
                self.assertEqual([key for key in TABLE if left[key] != right[key]][0], name)
            lengths.append(0 if answer is None else len(answer[0]))
        for length in range(4):
            self.assertIn(length, lengths)

    def test_the_largest_sheets(self):
        marks = ["*.m a.n", "*.n > b.m", "a.m > c", "b.n c.m", "*.m > *.n", "c > a.m.n"]
        rows = [head + " { size 11/10; lead " + str(at + 1) + " }" for at, head in enumerate(marks)]
        one, other = Sheet.read("\n".join(rows[:3])), Sheet.read("\n".join(rows[3:]))
        answer = first_difference(one, other)
        self.assertEqual(answer, plain_difference(one, other, len(answer[0])))


class PartingDocumentTest(unittest.TestCase):
    def test_none(self):
        self.assertIsNone(parting_document(Sheet([]), Sheet([])))

    def test_parts_within_parts(self):
        one, other = Sheet.read("a > b.m { size 4 }\na > c { size 5/4 }"), Sheet.read("a > b.m { size 4 }")
        self.assertEqual(write_document(parting_document(one, other)), "(a (b.m (a (c))))")
        self.assertEqual(parting_document(Sheet.read("p { size 3 }"), other), ("p", (), ()))


class NeedlessRulesTest(unittest.TestCase):
    def check(self, text, numbers):
        self.assertEqual(needless_rules(Sheet.read(text)), numbers)

    def test_needless_rules(self):
        self.check("", [])
        self.check("p { size 3 }", [])
        self.check("p { size 3 }\np { size 3 }", [0, 1])
        self.check("p { size 3 }\np { size 4 }", [0])
        self.check("p { size 3 }\nq { keep no }\n* { size same }", [1, 2])
        self.check("p { size 3; lead 4 }\np { size 4 }", [])
        self.check("p { size 3 }\na p { size 3 }\np { size 3 }", [0, 1, 2])
        self.check("p { size 3! }\np { size 4 }", [1])


class AffectedPartsTest(unittest.TestCase):
    root = read_document('(doc (p "x" (em.red "y") #a) (p.big (em (q "z"))) "w" (q))')

    def check(self, one, other, paths):
        self.assertEqual(affected_parts(self.root, Sheet.read(one), Sheet.read(other)), paths)

    def test_affected_parts(self):
        self.check("", "", [])
        self.check("", "em { size 3 }", [(0, 1), (1, 0), (1, 0, 0)])
        self.check("", "em { keep yes }", [(0, 1), (1, 0)])
        self.check("doc { size 3 }", "", [(), (0,), (0, 1), (1,), (1, 0), (1, 0, 0), (3,)])
        self.check("*.red { face bold }", "em { face bold }", [(1, 0), (1, 0, 0)])
        self.check("q { size 3 }", "p q { size 3 }", [(3,)])
        self.check("z { size 3 }", "", [])

    def test_sheets_of_any_size(self):
        rows = "\n".join(["doc > p > em.red { above 9; below 1/2; indent 3/1; size 4 }"] * 12)
        self.check(rows, "", [(0, 1)])


if __name__ == "__main__":
    unittest.main()
