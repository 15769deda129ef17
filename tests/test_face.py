"""Points 33 to 35: faces and rulers."""

import random
import unittest

from stylepages.errors import BadLetter, MissingLetter, NoLetter, OpenOutline, UnevenFigures
from stylepages.faces.face import Face
from stylepages.faces.ink import Ink, ink_of
from stylepages.faces.ruler import Ruler
from tests.plain_faces import FIGURES, LETTER_SIGNS, base_letters, box, gaps, plain_amount, slanted_letters

OPEN = (0, 0, (("line", 1, 0),))


class MakingTest(unittest.TestCase):
    def missing(self, letters, char):
        with self.assertRaises(MissingLetter) as caught:
            Face(letters)
        self.assertEqual(caught.exception.char, char)

    def bad(self, letters, char, place):
        with self.assertRaises(BadLetter) as caught:
            Face(letters)
        self.assertEqual(caught.exception.char, char)
        self.assertIsInstance(caught.exception.__cause__, OpenOutline)
        self.assertEqual(caught.exception.__cause__.place, place)

    def test_required(self):
        self.assertEqual(Face.REQUIRED, "0123456789-")
        self.assertEqual(len(Face(base_letters())), 11)

    def test_missing_letters_in_order(self):
        self.missing({}, "0")
        self.missing({"a": (1, ())}, "0")
        for at, char in enumerate(Face.REQUIRED):
            letters = base_letters()
            for gone in Face.REQUIRED[at:]:
                del letters[gone]
            self.missing(letters, char)
            letters = base_letters()
            del letters[char]
            self.missing(letters, char)

    def test_uneven_figures(self):
        for figure in FIGURES:
            letters = base_letters()
            letters[figure] = (6, ())
            self.assertRaises(UnevenFigures, Face, letters)
        letters = {char: (9, row[1]) for char, row in base_letters().items()}
        letters["-"] = (3, ())
        self.assertEqual(Face(letters).advance("7"), 9)

    def test_bad_letters(self):
        letters = base_letters()
        letters.update({"z": (4, (OPEN,)), "b": (4, (box(0, 0, 1, 1), OPEN, OPEN))})
        self.bad(letters, "b", 1)
        letters["B"] = (4, (OPEN,))
        self.bad(letters, "B", 0)
        letters["4"] = (5, (OPEN,))
        self.bad(letters, "4", 0)
        letters["!"] = (5, (box(0, 0, 1, 1), box(0, 0, 1, 1), OPEN))
        self.bad(letters, "!", 2)

    def test_which_error_comes_first(self):
        letters = base_letters()
        letters["a"] = (4, (OPEN,))
        letters["3"] = (6, (OPEN,))
        self.assertRaises(UnevenFigures, Face, letters)
        del letters["-"]
        self.missing(letters, "-")

    def test_members(self):
        letters = base_letters()
        letters["z"] = letters["B"] = letters["a"] = (4, ())
        face = Face(letters)
        self.assertEqual(list(face), sorted(letters))
        self.assertEqual(list(face), list("-0123456789Baz"))
        self.assertEqual(len(face), 14)
        self.assertIs("a" in face, True)
        self.assertIs("b" in face, False)
        self.assertEqual(face.space, (4, 2, 1))
        self.assertEqual(Face(base_letters(), space=(30, 0, 29)).space, (30, 0, 29))

    def test_a_dict_that_is_changed_later(self):
        letters, kerns = base_letters(), {"ab": 3}
        letters.update({"a": (9, ()), "b": (9, ())})
        face = Face(letters, kerns=kerns)
        before = face.data()
        letters["a"] = (2, (OPEN,))
        del letters["0"]
        letters["c"] = (1, ())
        kerns["ab"] = 0
        kerns["ba"] = 1
        self.assertEqual(face.data(), before)
        self.assertEqual((face.advance("a"), face.nearer("a", "b"), face.nearer("b", "a")), (9, 3, 0))
        self.assertIs("c" in face, False)

    def test_arguments_stay(self):
        letters, kerns = base_letters(), {"zz": 3, "aa": 2}
        told = (list(letters.items()), list(kerns.items()))
        face = Face(letters, kerns=kerns)
        face.changed("a", (3, ()))
        face.with_kern("ab", 3)
        self.assertEqual((list(letters.items()), list(kerns.items())), told)


class LettersTest(unittest.TestCase):
    face = Face(slanted_letters(), want=1, most=3)

    def no_letter(self, char, function, *given):
        with self.assertRaises(NoLetter) as caught:
            function(*given)
        self.assertEqual(caught.exception.char, char)

    def test_advance_and_ink(self):
        self.assertEqual(self.face.advance("V"), 9)
        self.assertIsInstance(self.face.ink("V"), Ink)
        for char, letter in slanted_letters().items():
            self.assertEqual(self.face.advance(char), letter[0])
            self.assertEqual(self.face.ink(char).cells(), ink_of(letter[1]).cells())

    def test_no_letter(self):
        self.no_letter("q", self.face.advance, "q")
        self.no_letter("q", self.face.ink, "q")
        for function in (self.face.nearer, self.face.closest_row):
            self.no_letter("q", function, "q", "V")
            self.no_letter("q", function, "V", "q")
            self.no_letter("q", function, "q", "w")
            self.no_letter("w", function, "w", "q")
            self.no_letter("q", function, "1", "q")
            self.no_letter("q", function, "q", "1")
        self.no_letter("q", self.face.with_kern("qV", 3).nearer, "q", "V")

    def test_the_closest_row(self):
        self.assertEqual(self.face.closest_row("i", "i"), 0)
        self.assertEqual(self.face.closest_row("'", "i"), 6)
        self.assertIsNone(self.face.closest_row(".", "'"))
        self.assertIsNone(self.face.closest_row("x", "i"))
        self.assertIsNone(self.face.closest_row("i", "x"))
        self.assertIsNone(self.face.closest_row("x", "x"))
        self.assertEqual(self.face.closest_row("1", "2"), 0)
        self.assertEqual(self.face.closest_row("V", "V"), 6)
        self.assertEqual(self.face.closest_row("A", "A"), 0)
        other = Face(slanted_letters(), want=9, most=0, kerns={"VV": 4, "ii": 1})
        for a in other:
            for b in other:
                self.assertEqual(other.closest_row(a, b), self.face.closest_row(a, b))
                rows = gaps(slanted_letters(), a, b)
                self.assertEqual(other.closest_row(a, b), min(rows)[1] if rows else None)

    def test_rows_below_zero(self):
        letters = base_letters()
        letters["a"] = (5, (box(0, -9, 5, 2), box(0, 0, 3, 2)))
        letters["b"] = (5, (box(1, -9, 2, 2), box(0, 0, 3, 2)))
        self.assertEqual(Face(letters).closest_row("a", "b"), -9)
        self.assertEqual(Face(letters, want=0).nearer("a", "b"), 1)

    def test_each_rule_of_the_amount(self):
        letters = slanted_letters()
        face = Face(letters, want=1, most=3, kerns={"1V": 3, "V1": 3, "ii": 0, "x.": 2, "VA": 9, "lV": 5, "Vl": 5})
        for pair in ("1V", "V1", "11", "-1", "1-"):
            self.assertEqual(face.nearer(pair[0], pair[1]), 0, pair)
        self.assertEqual(face.nearer("i", "i"), 0)
        self.assertEqual(face.nearer("x", "."), 2)
        self.assertEqual(face.nearer(".", "x"), 0)
        self.assertEqual(face.nearer(".", "'"), 0)
        self.assertEqual(face.nearer("V", "A"), 8)
        self.assertEqual(face.nearer("l", "V"), 0)
        self.assertEqual(face.nearer("V", "l"), 0)
        self.assertEqual(self.face.nearer("i", "i"), 1)
        self.assertEqual(self.face.nearer("A", "V"), min(3, min(gaps(letters, "A", "V"))[0] - 1))
        self.assertEqual(self.face.nearer("o", "o"), 0)

    def test_below_nothing_and_above_the_most(self):
        letters = slanted_letters()
        for want in range(10):
            for most in range(10):
                face = Face(letters, want=want, most=most)
                self.assertEqual(face.nearer("i", "i"), min(most, max(0, 2 - want), 2))
        self.assertEqual(Face(letters, want=0, most=9).nearer("'", "'"), 2)
        wide = base_letters()
        wide["a"] = (20, (box(0, 0, 2, 2),))
        wide["b"] = (3, (box(0, 0, 2, 2),))
        self.assertEqual(Face(wide, want=0, most=9).nearer("a", "a"), 9)
        self.assertEqual(Face(wide, want=0, most=9).nearer("a", "b"), 2)

    def test_against_a_plain_reading(self):
        source = random.Random(34)
        for _ in range(12):
            letters = base_letters()
            for char in "abcdeF.":
                boxes = [
                    box(source.randint(-3, 6), source.randint(-4, 6), source.randint(1, 5), source.randint(1, 4))
                    for _ in range(source.randint(0, 3))
                ]
                letters[char] = (source.choice([1, 2, 5, 12, 30]), tuple(boxes))
            kerns = {source.choice("abc1q") + source.choice("abF0z"): source.randint(0, 9) for _ in range(5)}
            want, most = source.randint(0, 9), source.randint(0, 9)
            face = Face(letters, want=want, most=most, kerns=kerns)
            for a in face:
                for b in face:
                    self.assertEqual(face.nearer(a, b), plain_amount(letters, kerns, want, most, a, b), (a, b))


class ChangesTest(unittest.TestCase):
    def setUp(self):
        self.face = Face(slanted_letters(), space=(7, 3, 2), want=2, most=4, kerns={"VA": 3, "qV": 2})

    def test_a_letter_that_is_new(self):
        before = self.face.data()
        face = self.face.changed("q", (8, (box(0, 0, 2, 2),)))
        self.assertIsInstance(face, Face)
        self.assertEqual((face.advance("q"), len(face)), (8, len(self.face) + 1))
        self.assertEqual(face.nearer("q", "V"), 2)
        self.assertEqual(list(face), sorted(list(self.face) + ["q"]))
        self.assertEqual(face.data()[1:], before[1:])
        self.assertEqual(self.face.data(), before)
        self.assertIs("q" in self.face, False)

    def test_a_letter_that_is_exchanged(self):
        face = self.face.changed("V", (3, ()))
        self.assertEqual((face.advance("V"), len(face.ink("V")), len(face)), (3, 0, len(self.face)))
        self.assertEqual(face.nearer("V", "A"), 2)
        self.assertEqual(self.face.advance("V"), 9)

    def test_a_letter_that_is_removed(self):
        face = self.face.changed("V", None)
        self.assertIs("V" in face, False)
        self.assertRaises(NoLetter, face.advance, "V")
        self.assertEqual(face.data()[4], (("VA", 3), ("qV", 2)))
        self.assertEqual(face.changed("V", (9, ())).nearer("V", "A"), 3)
        self.assertEqual(self.face.changed("q", None).data(), self.face.data())

    def test_what_making_raises(self):
        with self.assertRaises(MissingLetter) as caught:
            self.face.changed("-", None)
        self.assertEqual(caught.exception.char, "-")
        self.assertRaises(UnevenFigures, self.face.changed, "3", (6, ()))
        with self.assertRaises(BadLetter) as caught:
            self.face.changed("m", (6, (OPEN,)))
        self.assertEqual(caught.exception.char, "m")
        self.assertEqual(self.face.changed("3", (5, ())).advance("3"), 5)

    def test_kerns(self):
        before = self.face.data()
        for pair, amount, kerns in (
            ("AV", 5, (("AV", 5), ("VA", 3), ("qV", 2))), ("VA", 0, (("VA", 0), ("qV", 2))),
            ("VA", None, (("qV", 2),)), ("zz", None, (("VA", 3), ("qV", 2))), ("yz", 9, (("VA", 3), ("qV", 2), ("yz", 9))),
        ):
            face = self.face.with_kern(pair, amount)
            self.assertIsInstance(face, Face)
            self.assertEqual(face.data(), before[:4] + (kerns,))
        self.assertEqual(self.face.data(), before)
        self.assertEqual(self.face.with_kern("VA", 1).nearer("V", "A"), 1)
        self.assertEqual(self.face.with_kern("VA", None).nearer("V", "A"), 3)

    def test_data(self):
        letters, space, want, most, kerns = self.face.data()
        self.assertEqual([row[0] for row in letters], list(self.face))
        self.assertEqual({char: (advance, outlines) for char, advance, outlines in letters}, slanted_letters())
        self.assertEqual((space, want, most, kerns), ((7, 3, 2), 2, 4, (("VA", 3), ("qV", 2))))
        self.assertIsInstance(letters, tuple)
        self.assertIsInstance(letters[0], tuple)
        again = Face.of(self.face.data())
        self.assertIsInstance(again, Face)
        self.assertEqual(again.data(), self.face.data())
        self.assertEqual(again.nearer("V", "A"), self.face.nearer("V", "A"))
        self.assertEqual(Face(base_letters()).data()[1:], ((4, 2, 1), 1, 2, ()))

    def test_order_of_the_data(self):
        shuffled = dict(reversed(list(slanted_letters().items())))
        face = Face(shuffled, kerns={"zz": 1, "aa": 2, "Za": 3})
        self.assertEqual([row[0] for row in face.data()[0]], sorted(shuffled))
        self.assertEqual(face.data()[4], (("Za", 3), ("aa", 2), ("zz", 1)))
        self.assertEqual(list(face), sorted(shuffled))

    def test_even_faces(self):
        for advance in (1, 2, 7, 30):
            face = Face.even(advance)
            letters, space, want, most, kerns = face.data()
            self.assertEqual(letters, tuple((char, advance, ()) for char in sorted(LETTER_SIGNS)))
            self.assertEqual((space, want, most, kerns), ((advance, advance, advance // 2), 0, 0, ()))
            self.assertEqual(Face.of(face.data()).data(), face.data())


class RulerTest(unittest.TestCase):
    face = Face(slanted_letters(), want=1, most=3, kerns={"xx": 2, "x1": 4})
    ruler = Ruler(face)

    def test_short_words(self):
        self.assertEqual(self.ruler(""), 0)
        self.assertEqual(self.ruler("", 12), 0)
        self.assertEqual(self.ruler("V"), 9)
        self.assertEqual(self.ruler("V", 3), 27)
        self.assertEqual(self.ruler("V", size=2), 18)

    def test_pairs(self):
        self.assertEqual(self.ruler("xx"), 10)
        self.assertEqual(self.ruler("xxx", 5), 70)
        self.assertEqual(self.ruler("x1"), 11)
        self.assertEqual(self.ruler("1x11-"), 25)
        self.assertEqual(self.ruler("ii"), 6 - self.face.nearer("i", "i"))

    def test_against_sums(self):
        source = random.Random(35)
        for _ in range(100):
            word = "".join(source.choice("VAi.'xol12-") for _ in range(source.randint(0, 9)))
            size = source.randint(1, 12)
            wide = sum(self.face.advance(char) for char in word)
            near = sum(self.face.nearer(word[k], word[k + 1]) for k in range(len(word) - 1))
            self.assertEqual(self.ruler(word, size), size * (wide - near))

    def test_no_letter(self):
        for word, char in (("q", "q"), ("Vqw", "q"), ("wVq", "w"), ("VAiz", "z"), ("qV", "q")):
            with self.assertRaises(NoLetter) as caught:
                self.ruler(word)
            self.assertEqual(caught.exception.char, char)


if __name__ == "__main__":
    unittest.main()
