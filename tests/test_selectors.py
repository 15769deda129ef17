"""Points 17 and 18: which lineages selectors match, and their weights."""

import random
import unittest

from stylepages.sheets.rules import read_rule
from stylepages.sheets.selectors import matches, weight_of
from stylepages.sheets.weights import Weight
from tests.support import plainly_matches


def selector_of(text):
    return read_rule(text + " { size 3 }")[0]


def lineage_of(text):
    pairs = []
    for word in text.split():
        kind, *marks = word.split(".")
        pairs.append((kind, tuple(marks)))
    return tuple(pairs)


class MatchesTest(unittest.TestCase):
    def check(self, selector, lineage, answer):
        self.assertIs(matches(selector_of(selector), lineage_of(lineage)), answer, (selector, lineage))

    def test_one_step(self):
        self.check("p", "p", True)
        self.check("p", "q p", True)
        self.check("p", "p q", False)
        self.check("*", "p q", True)
        self.check("p", "pp", False)

    def test_marks(self):
        self.check("p.a", "p.a", True)
        self.check("p.a", "p.a.b", True)
        self.check("p.b", "p.a.b", True)
        self.check("*.a.b", "p.a.b.c", True)
        self.check("p.a.b", "p.a", False)
        self.check("p.a", "p", False)
        self.check("p", "p.a", True)

    def test_a_mark_that_is_also_a_kind(self):
        self.check("*.p", "p", False)
        self.check("p.p", "p", False)
        self.check("p.p", "p.p", True)
        self.check("p", "q.p", False)

    def test_joints(self):
        self.check("p q", "p q", True)
        self.check("p q", "p x q", True)
        self.check("p > q", "p q", True)
        self.check("p > q", "p x q", False)
        self.check("p > q", "x p q", True)
        self.check("p q", "q p", False)
        self.check("p p", "p", False)
        self.check("* > *", "p", False)
        self.check("* *", "p q", True)

    def test_shorter_lineages(self):
        self.check("* * *", "p q", False)
        self.check("* * *", "p q r", True)
        self.check("* * * *", "p p p", False)
        self.check("p > p > p > p", "p p p p", True)

    def test_only_one_choice_fits(self):
        self.check("a > b c", "a b b c", True)
        self.check("a > b c", "a x b a b c", True)
        self.check("a > b > c", "a b x b c a b c", True)
        self.check("a > b > c", "a b x b c", False)
        self.check("a b > c", "a b c b c", True)
        self.check("a b > c d", "a c b c c d", True)
        self.check("b > a a", "b a x a", True)
        self.check("a > a b > c", "a a b b c", True)
        self.check("a > a b > c", "a x a b b c", False)

    def test_against_all_choices_of_positions(self):
        source = random.Random(17)
        answers = [0, 0]
        for _ in range(4000):
            many = source.randint(1, 4)
            selector = tuple(
                (
                    source.choice([" ", ">"]) if at else "",
                    source.choice(["a", "b", "*"]),
                    source.choice([(), (), ("a",), ("a", "m"), ("m",)]),
                )
                for at in range(many)
            )
            lineage = tuple(
                (source.choice("ab"), source.choice([(), ("a",), ("m",), ("a", "m")]))
                for _ in range(source.randint(1, 7))
            )
            answer = plainly_matches(selector, lineage)
            answers[answer] += 1
            self.assertIs(matches(selector, lineage), answer, (selector, lineage))
        self.assertGreater(min(answers), 500)

    def test_weight_of(self):
        for text, marks, kinds in (
            ("p", 0, 1), ("*", 0, 0), ("*.a", 1, 0), ("p.a.b.c", 3, 1), ("p > q r.a *.b.c", 3, 3), ("* > *", 0, 0),
            ("a b c d", 0, 4), ("*.a > *.a *.a *.a", 4, 0),
        ):
            weight = weight_of(selector_of(text))
            self.assertIsInstance(weight, Weight)
            self.assertEqual((weight.marks, weight.kinds), (marks, kinds), text)


if __name__ == "__main__":
    unittest.main()
