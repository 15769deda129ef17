"""Points 19, 20, 22 and 23: sheets."""

import random
import unittest

from stylepages.errors import BadPath, BadRule, TooLarge
from stylepages.sheets.properties import PROPERTIES
from stylepages.sheets.rules import read_rule, write_rule
from stylepages.sheets.sheet import Sheet, joined
from tests.support import TABLE, plain_values, plain_winner
from tests.test_rules import random_rule
from tests.test_selectors import lineage_of

P = read_rule("p { size 3 }")
Q = read_rule("q { lead 4; face bold! }")
R = read_rule("* { below 1/2 }")


class WinnerTest(unittest.TestCase):
    def check(self, text, winner, lineage="doc p.m", name="size"):
        self.assertEqual(Sheet.read(text).winner(lineage_of(lineage), name), winner, text)

    def test_none(self):
        self.check("", None)
        self.check("p { lead 3 }", None)
        self.check("doc { size 3 }", None)
        self.check("p p { size 3 }", None)

    def test_strong_beats_weight(self):
        self.check("* { size 3! }\ndoc > p.m { size 4 }", (0, 0))
        self.check("doc > p.m { size 4 }\n* { size 3! }", (1, 0))
        self.check("* { size 3! }\np { size 4! }", (1, 0))

    def test_weight_beats_place(self):
        self.check("p { size 3 }\n* { size 4 }", (0, 0))
        self.check("*.m { size 3 }\ndoc p { size 4 }", (0, 0))
        self.check("doc > p { size 3 }\np { size 4 }", (0, 0))
        self.check("p.m { size 3 }\n*.m { size 4 }", (0, 0))

    def test_later_rule(self):
        self.check("p { size 3 }\np { size 4 }", (1, 0))
        self.check("p { size 3 }\np { size 4 }\nq { size 5 }", (1, 0))
        self.check("doc * { size 3 }\np { size 4 }", (1, 0))

    def test_later_declaration(self):
        self.check("p { size 3; lead 2; size 4 }", (0, 2))
        self.check("p { size 3!; lead 2; size 4 }", (0, 0))
        self.check("p { size 3!; lead 2; size 4! }", (0, 2))
        self.check("p { size 3; size 4 }\np { lead 4; size 4 }", (1, 1))

    def test_against_a_plain_search(self):
        source = random.Random(20)
        for _ in range(150):
            rules = [random_rule(source) for _ in range(source.randint(0, 12))]
            sheet = Sheet(rules)
            lineage = tuple(
                (source.choice(["doc", "p"]), source.choice([(), ("a",), ("a", "b"), ("a", "b", "p")]))
                for _ in range(source.randint(1, 5))
            )
            for name in PROPERTIES:
                self.assertEqual(sheet.winner(lineage, name), plain_winner(rules, lineage, name))
            values = sheet.values_of(lineage)
            self.assertEqual(list(values.items()), list(plain_values(rules, lineage).items()))


class ValuesTest(unittest.TestCase):
    def test_declared(self):
        sheet = Sheet.read("p { below 3; size 4; below same }\n* { keep yes; size 5 }\nq { lead 3 }")
        self.assertEqual(
            list(sheet.declared(lineage_of("q p")).items()), [("size", 4), ("keep", "yes"), ("below", "same")]
        )
        self.assertEqual(sheet.declared(lineage_of("p q")), {"size": 5, "lead": 3, "keep": "yes"})
        self.assertEqual(Sheet([]).declared(lineage_of("p")), {})

    def test_values_of(self):
        sheet = Sheet.read("doc { size 4; indent 9 }\np { size 3/2; lead 5/2 }\nem { indent same }")
        values = sheet.values_of(lineage_of("doc p em"))
        self.assertEqual(list(values), list(PROPERTIES))
        self.assertEqual((values["size"], values["lead"], values["indent"]), (6, 15, 0))
        self.assertEqual(sheet.values_of(lineage_of("doc em"))["indent"], 9)
        self.assertEqual(sheet.values_of(lineage_of("doc p"))["size"], 6)
        self.assertEqual(sheet.values_of(lineage_of("doc p p"))["size"], 9)
        self.assertEqual(sheet.values_of(lineage_of("p"))["size"], 3)
        self.assertEqual(
            Sheet([]).values_of(lineage_of("x y")), {name: row[4] for name, row in TABLE.items()}
        )

    def test_answers_are_new(self):
        sheet = Sheet([P])
        for ask in (sheet.declared, sheet.values_of):
            first = ask(lineage_of("p"))
            first["size"] = 9
            self.assertEqual(ask(lineage_of("p"))["size"], 3)

    def check_origin(self, text, lineage, name, origin):
        self.assertEqual(Sheet.read(text).origin(lineage_of(lineage), name), origin)

    def test_origin_of_a_declared_value(self):
        self.check_origin("p { size 3 }", "p", "size", (0, 0, 0))
        self.check_origin("q { lead 3 }\np { lead 3; size 3 }", "q p", "size", (1, 1, 1))
        self.check_origin("p { keep yes }", "q p", "keep", (1, 0, 0))
        self.check_origin("p { size first }", "q p", "size", (1, 0, 0))
        self.check_origin("p { keep first }\nq { keep yes }", "q p", "keep", (1, 0, 0))

    def test_origin_of_an_inherited_value(self):
        self.check_origin("q { size 3 }", "q p p", "size", (0, 0, 0))
        self.check_origin("q { size 3 }", "x q p", "size", (1, 0, 0))
        self.check_origin("q { keep yes }", "q p p", "keep", None)
        self.check_origin("", "q p p", "size", None)
        self.check_origin("", "q", "keep", None)

    def test_origin_of_same(self):
        self.check_origin("p { size same }\nq { size 3 }", "q p p", "size", (0, 1, 0))
        self.check_origin("p { keep same }\nq { keep yes }", "q p p", "keep", (0, 1, 0))
        self.check_origin("p { keep same }\nq { keep yes }", "q x p", "keep", None)
        self.check_origin("p { keep same }", "p", "keep", None)
        self.check_origin("p { size same }", "p", "size", None)
        self.check_origin("p { size same }\nq { size 3 }", "q x p", "size", (0, 1, 0))
        self.check_origin("* { size same! }\nq { size 3 }", "q p", "size", None)


class NotationTest(unittest.TestCase):
    def test_there_and_back(self):
        source = random.Random(22)
        for _ in range(100):
            rules = [random_rule(source) for _ in range(source.randint(0, 12))]
            text = Sheet(rules).text()
            self.assertEqual(text, "\n".join(write_rule(rule) for rule in rules))
            self.assertEqual(list(Sheet.read(text)), rules)

    def test_no_rules(self):
        self.assertEqual(Sheet([]).text(), "")
        self.assertEqual(len(Sheet.read("")), 0)

    def refuse(self, text, line):
        with self.assertRaises(BadRule) as caught:
            Sheet.read(text)
        self.assertEqual(caught.exception.line, line)

    def test_the_first_bad_line(self):
        good = write_rule(P)
        self.refuse("x", 0)
        self.refuse("\n" + good, 0)
        self.refuse(good + "\n", 1)
        self.refuse("\n", 0)
        self.refuse(good + "\n\n" + good, 1)
        self.refuse(good + "\n" + good + "\nbad\n" + good + "\nbad", 2)
        self.refuse(good + "\n " + good, 1)
        self.refuse(good + " \n" + good, 0)
        self.refuse(" ", 0)

    def test_limit(self):
        good = write_rule(P)
        self.assertEqual(len(Sheet.read("\n".join([good] * 12))), 12)
        with self.assertRaises(TooLarge):
            Sheet.read("\n".join([good] * 13))
        self.refuse("\n".join([good] * 13 + ["bad"]), 13)
        self.refuse("\n".join([good] * 12) + "\n", 12)
        self.refuse("\n" * 7999, 0)


class RowTest(unittest.TestCase):
    def test_len_and_iteration(self):
        sheet = Sheet([P, Q, R])
        self.assertEqual(len(sheet), 3)
        self.assertEqual(list(sheet), [P, Q, R])
        self.assertEqual([rule for rule in sheet], [P, Q, R])
        self.assertEqual(list(Sheet((P, Q))), [P, Q])

    def test_places(self):
        sheet = Sheet([P, Q])
        self.assertEqual((sheet[0], sheet[1]), (P, Q))
        for at in (-1, 2, -2, 100):
            with self.assertRaises(BadPath):
                sheet[at]
            with self.assertRaises(BadPath):
                sheet.without_rule(at)
        for at in (-1, 3, 100):
            with self.assertRaises(BadPath):
                sheet.with_rule(at, R)
        with self.assertRaises(BadPath):
            Sheet([])[0]

    def test_contains(self):
        sheet = Sheet([P, Q])
        for name in PROPERTIES:
            self.assertIs(name in sheet, name in ("size", "lead", "face"))
            self.assertIs(name in Sheet([]), False)
        self.assertIs("p" in sheet, False)

    def test_sum(self):
        one, other = Sheet([P, Q]), Sheet([R, P])
        total = one + other
        self.assertIsInstance(total, Sheet)
        self.assertEqual(list(total), [P, Q, R, P])
        self.assertEqual((list(one), list(other)), ([P, Q], [R, P]))
        with self.assertRaises(TooLarge):
            Sheet([P] * 7) + Sheet([Q] * 6)
        self.assertEqual(len(Sheet([P] * 7) + Sheet([Q] * 5)), 12)
        self.assertEqual(total.winner(lineage_of("p"), "size"), (3, 0))

    def test_joined(self):
        self.assertEqual(list(joined()), [])
        self.assertEqual(list(joined(Sheet([P]))), [P])
        self.assertEqual(list(joined(Sheet([P]), Sheet([]), Sheet([Q, R]), Sheet([P]))), [P, Q, R, P])
        self.assertEqual(len(joined(*[Sheet([P])] * 12)), 12)
        with self.assertRaises(TooLarge):
            joined(*[Sheet([P])] * 13)

    def test_with_and_without_rule(self):
        sheet = Sheet([P, Q])
        self.assertEqual([list(sheet.with_rule(at, R)) for at in range(3)], [[R, P, Q], [P, R, Q], [P, Q, R]])
        self.assertEqual([list(sheet.without_rule(at)) for at in range(2)], [[Q], [P]])
        self.assertEqual(list(sheet), [P, Q])

    def test_too_large_comes_behind_bad_path(self):
        full = Sheet([P] * 12)
        for at in (0, 12):
            with self.assertRaises(TooLarge):
                full.with_rule(at, Q)
        for at in (-1, 13):
            with self.assertRaises(BadPath):
                full.with_rule(at, Q)

    def test_limit(self):
        self.assertEqual(Sheet.LIMIT, 12)
        self.assertEqual(len(Sheet([P] * 12)), 12)
        for rules in ([P] * 13, (P,) * 13):
            with self.assertRaises(TooLarge):
                Sheet(rules)

    def test_a_list_that_is_changed_later(self):
        rules = [P, Q]
        sheet = Sheet(rules)
        rules.append(R)
        rules[0] = R
        self.assertEqual(list(sheet), [P, Q])
        self.assertEqual(sheet.winner(lineage_of("p"), "size"), (0, 0))
        self.assertIs("below" in sheet, False)
        self.assertEqual(sheet.text(), write_rule(P) + "\n" + write_rule(Q))


if __name__ == "__main__":
    unittest.main()
