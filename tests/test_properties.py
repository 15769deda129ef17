"""Points 14 to 16: the properties and the values of a part."""

import random
import unittest

from stylepages.sheets.properties import PROPERTIES, computed, initial_values, is_value
from tests.support import TABLE

ALL_WORDS = ("plain", "bold", "both", "left", "block", "line", "none", "note", "float", "yes", "no")
INITIAL = {name: row[4] for name, row in TABLE.items()}


class TableTest(unittest.TestCase):
    def test_order(self):
        self.assertEqual(PROPERTIES, tuple(TABLE))

    def test_initial_values(self):
        self.assertEqual(list(initial_values().items()), list(INITIAL.items()))

    def test_a_changed_answer_has_no_effect(self):
        values = initial_values()
        values["size"] = 99
        del values["lead"]
        self.assertEqual(initial_values(), INITIAL)
        self.assertEqual(computed(INITIAL, {}), INITIAL)

    def test_ranges(self):
        for name, (span, _, _, _, _) in TABLE.items():
            low, high = span or (1, 0)
            for number in (low, high, (low + high) // 2):
                self.assertIs(is_value(name, number), span is not None, (name, number))
            for number in (low - 1, high + 1, -1, 100, -(10 ** 30), 10 ** 30):
                self.assertIs(is_value(name, number), False, (name, number))

    def test_true_and_false_are_no_numbers(self):
        for name in TABLE:
            self.assertIs(is_value(name, True), False)
            self.assertIs(is_value(name, False), False)

    def test_words(self):
        for name, (_, words, _, _, _) in TABLE.items():
            for word in ALL_WORDS:
                self.assertIs(is_value(name, word), word in words, (name, word))
            for word in ("same", "first"):
                self.assertIs(is_value(name, word), True)
            for word in ("", "Same", "first ", "size", "1", "1/2", "plai", "plainbold"):
                self.assertIs(is_value(name, word), False)

    def test_ratios(self):
        for name, (_, _, ratios, _, _) in TABLE.items():
            for ratio in ((1, 1), (99, 99), (1, 99), (99, 1)):
                self.assertIs(is_value(name, ratio), ratios, name)
            for ratio in ((), (1,), (1, 2, 3), (0, 1), (1, 0), (100, 1), (1, 100), (-1, 1), (1, -1)):
                self.assertIs(is_value(name, ratio), False, (name, ratio))


class ComputedTest(unittest.TestCase):
    parent = {
        "size": 7, "lead": 30, "face": "bold", "align": "left", "least": 3,
        "place": "block", "keep": "yes", "indent": 5, "above": 6, "below": 8,
    }

    def check(self, declared, changes):
        parent, given = dict(self.parent), dict(declared)
        expected = {name: self.parent[name] if row[3] else row[4] for name, row in TABLE.items()}
        expected.update(changes)
        self.assertEqual(list(computed(parent, given).items()), list(expected.items()))
        self.assertEqual(list(parent.items()), list(self.parent.items()))
        self.assertEqual(list(given.items()), list(declared.items()))

    def test_nothing_declared(self):
        self.check({}, {})
        self.assertEqual(computed(INITIAL, {}), INITIAL)

    def test_same_and_first(self):
        for name in PROPERTIES:
            self.check({name: "same"}, {name: self.parent[name]})
            self.check({name: "first"}, {name: INITIAL[name]})

    def test_numbers_and_words(self):
        self.check({"size": 12, "lead": 99, "least": 4}, {"size": 12, "lead": 99, "least": 4})
        self.check({"indent": 0, "above": 99, "below": 1}, {"above": 99, "below": 1})
        self.check({"place": "note", "keep": "no"}, {"place": "note"})
        self.check({"align": "both", "face": "plain"}, {"align": "both", "face": "plain"})

    def test_ratio_of_the_size(self):
        for ratio, size in (((6, 5), 8), ((1, 2), 3), ((1, 7), 1), ((1, 8), 1), ((1, 99), 1), ((12, 7), 12),
                            ((13, 7), 12), ((99, 1), 12), ((2, 1), 12), ((1, 1), 7)):
            self.check({"size": ratio}, {"size": size})

    def test_ratios_of_the_own_size(self):
        for name in ("lead", "indent", "above", "below"):
            self.check({name: (3, 2)}, {name: 10})
            self.check({"size": 5, name: (3, 2)}, {"size": 5, name: 7})
            self.check({name: (3, 2), "size": (2, 1)}, {"size": 12, name: 18})
            self.check({name: (99, 7)}, {name: 99})
            self.check({name: (99, 1)}, {name: 99})
            self.check({name: (1, 7)}, {name: 1})
            self.check({name: (1, 8)}, {name: 1 if name == "lead" else 0})
            self.check({"size": 12, name: (33, 4)}, {"size": 12, name: 99})
            self.check({"size": 12, name: (25, 3)}, {"size": 12, name: 99})

    def test_order_of_the_declared_values_does_not_matter(self):
        source = random.Random(16)
        declared = {"below": (1, 2), "size": (3, 2), "lead": (2, 1), "face": "first", "keep": "same"}
        answer = computed(self.parent, declared)
        for _ in range(20):
            rows = list(declared.items())
            source.shuffle(rows)
            self.assertEqual(list(computed(self.parent, dict(rows)).items()), list(answer.items()))

    def test_answers_are_new(self):
        first = computed(self.parent, {})
        first["size"] = 1
        self.assertEqual(computed(self.parent, {})["size"], 7)


if __name__ == "__main__":
    unittest.main()
