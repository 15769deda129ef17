"""Points 78 and 80: the edits of a desk and their independence."""

import unittest
from itertools import product

from stylepages.desk.edits import independent_edits
from stylepages.tree.edits import independent

RULE = ((("", "p", ()),), (("size", 3, False),))
DOCUMENT_EDITS = [
    ("put", (0,), "x"), ("put", (1, 0), "x"), ("take", (0, 1)), ("take", (1, 1)), ("text", (0,), "x"),
    ("text", (1,), "x"), ("kind", (), "k"), ("kind", (0,), "k"), ("marks", (0,), ()), ("marks", (1, 1), ("m",)),
    ("wrap", (0,), 1, "k", ()), ("wrap", (2, 1), 1, "k", ()), ("open", (0,)), ("open", (3, 1)),
]
SHEET_EDITS = [("rule", 0, RULE), ("rule", 5, RULE), ("unrule", 0), ("unrule", 7)]
LETTER_EDITS = [
    ("letter", face, char, letter) for face, char, letter in product(("plain", "bold"), "ab", (None, (5, ())))
]
KERN_EDITS = [("kern", face, pair, amount) for face, pair, amount in product(("plain", "bold"), ("ab", "ba"), (None, 3))]
SET_EDITS = [("set", "width", 100), ("set", "width", 200), ("set", "near", "here"), ("set", "far", "here")]


class IndependentEditsTest(unittest.TestCase):
    def check(self, first, second, answer):
        self.assertIs(independent_edits(first, second), answer, (first, second))

    def test_document_edits(self):
        for first, second in product(DOCUMENT_EDITS, DOCUMENT_EDITS):
            self.check(first, second, independent(first, second))
        self.check(("take", (0, 1)), ("take", (1, 1)), True)
        self.check(("take", (0, 1)), ("take", (0, 2)), False)

    def test_rules_are_never_independent(self):
        for first, second in product(SHEET_EDITS, SHEET_EDITS):
            self.check(first, second, False)

    def test_letters_and_kerns(self):
        for first, second in product(LETTER_EDITS, LETTER_EDITS):
            self.check(first, second, (first[1], first[2]) != (second[1], second[2]))
        for first, second in product(KERN_EDITS, KERN_EDITS):
            self.check(first, second, (first[1], first[2]) != (second[1], second[2]))
        for first, second in product(LETTER_EDITS, KERN_EDITS):
            self.check(first, second, True)
            self.check(second, first, True)

    def test_settings(self):
        for first, second in product(SET_EDITS, SET_EDITS):
            self.check(first, second, first[1] != second[1])

    def test_different_groups(self):
        groups = [DOCUMENT_EDITS, SHEET_EDITS, LETTER_EDITS + KERN_EDITS, SET_EDITS]
        for one, other in product(groups, groups):
            if one is not other:
                for first, second in product(one, other):
                    self.check(first, second, True)


if __name__ == "__main__":
    unittest.main()
