"""Points 38, 39 and 43: resolved runs, their words and their measures."""

import random
import unittest

from stylepages.errors import NoLetter
from stylepages.faces.face import Face
from stylepages.words.resolve import measures_of, plain_words, resolve
from tests.plain_faces import base_letters, slanted_letters
from tests.plain_words import plain_boxes, plain_measures, signs_of


def text(words, size=2, face="plain"):
    return ("text", words, size, face)


def shown(words, number=0, size=2, face="plain"):
    return ("shown", number, words, size, face)


MARK = ("mark", "label", 0)
PLAIN = Face(slanted_letters(), space=(5, 3, 2), want=1, most=3, kerns={"xo": 2, "ox": 1, "x-": 1, "o-": 3})
BOLD = Face(slanted_letters(), space=(9, 4, 6), want=0, most=4, kerns={"xo": 4})
FACES = {"plain": PLAIN, "bold": BOLD}


def random_resolved(source, signs="xoViA.12"):
    """Return a row of resolved runs; each shown text has a letter."""
    rows = []
    for _ in range(source.randint(0, 6)):
        looks = (source.choice([2, 2, 3]), source.choice(["plain", "plain", "bold"]))
        words = "".join(source.choice(signs + "  ||") for _ in range(source.randint(1, 6)))
        choice = source.randint(0, 3)
        if choice == 0:
            rows.append(("mark", source.choice(["label", "note", "float"]), source.randint(0, 9)))
        elif choice == 1:
            rows.append(("shown", len(rows), words + source.choice(signs) + source.choice(["", " ", "|"])) + looks)
        else:
            rows.append(("text", words) + looks)
    return tuple(rows)


class ResolveTest(unittest.TestCase):
    def test_runs(self):
        runs = (text("a b"), ("ref", 1, 3, "bold"), MARK, ("ref", 0, 2, "plain"), text("c"))
        self.assertEqual(
            resolve(runs, ("he|re", "p 00")),
            (text("a b"), shown("p 00", 1, 3, "bold"), MARK, shown("he|re"), text("c")),
        )
        self.assertEqual(resolve((), ("x",)), ())
        self.assertEqual(resolve((text("a"), text("b")), ()), (text("a"), text("b")))
        self.assertIsInstance(resolve((MARK,), ()), tuple)


class PlainWordsTest(unittest.TestCase):
    def check(self, words, *resolved):
        self.assertEqual(plain_words(resolved), words)

    def test_no_words(self):
        self.check([])
        self.check([], text("   "))
        self.check([], text("|"), MARK, text(" || |"), text("|"))

    def test_words(self):
        self.check(["ab", "c,", "d"], text(" ab   c, d "))
        self.check(["abc", "d"], text("ab|c d"))

    def test_across_runs(self):
        self.check(["abcd"], text("a"), MARK, text("b", 3), shown("c"), MARK, text("d"))
        self.check(["ab", "c"], text("a"), text("b"), MARK, shown(" c"))
        self.check(["a", "b"], text("a"), shown(" ", 1), text("b"))

    def test_hyphen_signs(self):
        self.check(["a"], text("|a|"))
        self.check(["a", "b"], text("||a || b|"))
        self.check(["ab"], text("a|"), MARK, text("||b"))

    def test_against_a_plain_reading(self):
        source = random.Random(43)
        for _ in range(500):
            resolved = random_resolved(source)
            signs = signs_of(resolved)
            expected = ["".join(signs[at][0] for box in boxes for at in box) for boxes in plain_boxes(resolved)]
            self.assertEqual(plain_words(resolved), expected)


class MeasuresTest(unittest.TestCase):
    def check(self, rows, *resolved):
        self.assertEqual(measures_of(resolved, FACES), tuple(rows))

    def letter(self, char, face="plain"):
        return ("letter", face, char, FACES[face].advance(char))

    def test_no_letters(self):
        self.check([])
        self.check([], text(" | "), MARK)

    def test_one_letter(self):
        self.check([("letter", "plain", "x", 6)], text("x"))
        self.check([("letter", "bold", "x", 6)], MARK, text(" |x| ", 3, "bold"))

    def test_pairs(self):
        self.check([self.letter("o"), self.letter("x"), ("pair", "plain", "x", "o", 2)], text("xo"))
        self.check(
            [self.letter("o"), self.letter("x"), ("pair", "plain", "o", "x", 1), ("pair", "plain", "x", "o", 2)],
            text("xox"), MARK, text("o"),
        )
        self.check([self.letter("1"), self.letter("2"), ("pair", "plain", "1", "2", 0)], text("12"))

    def test_pairs_of_two_sizes_or_faces(self):
        self.check([self.letter("o"), self.letter("x")], text("x"), text("o", 3))
        self.check([self.letter("o", "bold"), self.letter("x")], text("x"), text("o", 2, "bold"))
        self.check([self.letter("o"), self.letter("x"), ("pair", "plain", "x", "o", 2)], text("x"), shown("o", 4))

    def test_spaces_part_letters(self):
        rows = [self.letter("o"), self.letter("x"), ("space", "plain", 5, 3, 2)]
        self.check(rows, text("x o"))
        self.check(rows, text("x"), text("  | "), text("o"))
        self.check([self.letter("x")], text("  x  "))

    def test_the_face_of_the_first_space(self):
        rows = [self.letter("o"), self.letter("x")]
        self.check(rows + [("space", "bold", 9, 4, 6)], text("x"), text(" ", 3, "bold"), text("  o"))
        self.check(rows + [("space", "plain", 5, 3, 2)], text("x "), text(" ", 3, "bold"), text("  o"))
        self.check(rows + [("space", "plain", 5, 3, 2)], text("x| "), text("||", 3, "bold"), text("o"))
        both = [("space", "bold", 9, 4, 6), ("space", "plain", 5, 3, 2)]
        self.check(rows + both, text("x o"), text(" ", 3, "bold"), text("  x"))

    def test_hyphens(self):
        rows = [("hyphen", "plain", "x", 4, 1), self.letter("o"), self.letter("x"), ("pair", "plain", "x", "o", 2)]
        self.check(rows, text("x|o"))
        self.check(rows, text("x|"), MARK, text("||o"))
        self.check(rows, text("|x|o|"))
        self.check(
            [("hyphen", "bold", "x", 4, 0), self.letter("x", "bold"), self.letter("o")],
            text("x", 2, "bold"), text("|", 2, "plain"), text("o"),
        )
        two = [("hyphen", "plain", "o", 4, 3), ("hyphen", "plain", "x", 4, 1), self.letter("o"), self.letter("x")]
        self.check(two + [("pair", "plain", "o", "x", 1), ("pair", "plain", "x", "o", 2)], text("x|o|x"))

    def test_order_and_duplicates(self):
        resolved = (text("xo xo xo", 2), text(" xo", 3), text(" xo", 2, "bold"))
        found = measures_of(resolved, FACES)
        self.assertIsInstance(found, tuple)
        self.assertEqual(list(found), sorted(set(found)))
        self.assertEqual(len(found), 8)
        self.assertEqual(found, plain_measures(resolved, FACES))

    def no_letter(self, char, faces, *resolved):
        with self.assertRaises(NoLetter) as caught:
            measures_of(resolved, faces)
        self.assertEqual(caught.exception.char, char)

    def test_letters_that_are_lacking(self):
        self.no_letter("b", FACES, text("xo b c"))
        self.no_letter("c", FACES, text("xoc"), text("b"))
        self.no_letter("z", FACES, text("x|"), shown("z"), text("q"))
        self.no_letter("x", {"plain": PLAIN, "bold": Face(base_letters())}, text("o"), text("x", 2, "bold"), text("q"))
        self.no_letter("q", {"plain": PLAIN, "bold": Face(base_letters())}, text("qo"), text("x", 2, "bold"))

    def test_the_hyphen_is_never_lacking(self):
        faces = {"plain": Face(base_letters()), "bold": Face(base_letters())}
        self.assertEqual(
            measures_of((text("1|2"),), faces),
            (("hyphen", "plain", "1", 4, 0), ("letter", "plain", "1", 5), ("letter", "plain", "2", 5),
             ("pair", "plain", "1", "2", 0)),
        )

    def test_against_a_plain_reading(self):
        source = random.Random(39)
        for _ in range(500):
            resolved = random_resolved(source)
            self.assertEqual(measures_of(resolved, FACES), plain_measures(resolved, FACES))


if __name__ == "__main__":
    unittest.main()
