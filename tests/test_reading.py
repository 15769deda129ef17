"""Point 71: printed pages, read back from their letters."""

import random
import unittest

from stylepages.faces.face import Face
from stylepages.printing.reading import read_back, read_line
from stylepages.sheets.sheet import Sheet
from stylepages.tree.notation import read_document
from stylepages.whole.setting import set_document
from stylepages.whole.settings import Settings
from stylepages.words.flow import flow
from stylepages.words.resolve import plain_words, resolve
from tests.plain_setting import PlainSetting, plain_assignments, plain_classes, random_setting

FACES = {"plain": Face.even(3), "bold": Face.even(5)}
KERNED = {
    "plain": Face({char: (10, ()) for char in "0123456789-abc"}, kerns={"ab": 3, "b-": 2, "cc": 9}),
    "bold": Face({char: (8, ()) for char in "0123456789-abc"}, kerns={"ab": 1}),
}


def row(text, start=0, size=1, face="plain", advance=3):
    """Return the letters of a text with even advances; a space leaves a gap of one letter."""
    places = [(start + size * advance * at, char) for at, char in enumerate(text)]
    return tuple((x, char, size, face) for x, char in places if char != " ")


def page(number, columns, floats=(), notes=()):
    return (number, tuple(floats), tuple(columns), tuple(notes))


def lines(*texts):
    return tuple((12 * at, row(text)) for at, text in enumerate(texts))


class LineTest(unittest.TestCase):
    def test_words(self):
        self.assertEqual(read_line(row("ab"), FACES), ["ab"])
        self.assertEqual(read_line(row("ab cd  e"), FACES), ["ab", "cd", "e"])
        self.assertEqual(read_line(row("a"), FACES), ["a"])
        self.assertIsInstance(read_line(row("ab"), FACES), list)

    def test_the_place_of_the_line_does_not_matter(self):
        self.assertEqual(read_line(row("ab cd", 100), FACES), ["ab", "cd"])

    def test_spaces_of_any_width(self):
        for space in (1, 2, 50):
            letters = row("ab") + row("cd", 6 + space)
            self.assertEqual(read_line(letters, FACES), ["ab", "cd"])
        self.assertEqual(read_line(row("ab") + row("cd", 6), FACES), ["abcd"])

    def test_letters_that_stand_too_near(self):
        self.assertEqual(read_line(row("ab") + row("cd", 5), FACES), ["ab", "cd"])

    def test_hyphens_stay(self):
        self.assertEqual(read_line(row("ab cd-"), FACES), ["ab", "cd-"])
        self.assertEqual(read_line(row("ab- cd"), FACES), ["ab-", "cd"])
        self.assertEqual(read_line(row("-"), FACES), ["-"])

    def test_kerns(self):
        def at(*pairs):
            return tuple((x, char, 2, "plain") for x, char in pairs)
        self.assertEqual(read_line(at((0, "a"), (14, "b"), (34, "a")), KERNED), ["aba"])
        self.assertEqual(read_line(at((0, "a"), (20, "b")), KERNED), ["a", "b"])
        self.assertEqual(read_line(at((0, "b"), (16, "-")), KERNED), ["b-"])
        self.assertEqual(read_line(at((0, "c"), (2, "c"), (4, "c")), KERNED), ["ccc"])

    def test_sizes_and_faces(self):
        letters = ((0, "a", 1, "plain"), (10, "b", 2, "plain"), (30, "a", 1, "bold"), (37, "b", 1, "bold"))
        self.assertEqual(read_line(letters, KERNED), ["abab"])
        # Letters of two sizes, or of two faces, never come nearer.
        self.assertEqual(read_line(((0, "a", 1, "plain"), (7, "b", 1, "plain")), KERNED), ["ab"])
        self.assertEqual(read_line(((0, "a", 1, "plain"), (7, "b", 2, "plain")), KERNED), ["a", "b"])
        self.assertEqual(read_line(((0, "a", 1, "plain"), (7, "b", 1, "bold")), KERNED), ["a", "b"])
        self.assertEqual(read_line(((0, "a", 1, "plain"), (10, "b", 1, "bold")), KERNED), ["ab"])

    def test_arguments_stay(self):
        letters = row("ab cd-")
        read_line(letters, FACES)
        self.assertEqual(letters, row("ab cd-"))


class ReadBackTest(unittest.TestCase):
    def main(self, *pages):
        found = read_back(pages, FACES)
        self.assertEqual(found[1:], ([], []))
        return found[0]

    def test_no_pages(self):
        self.assertEqual(read_back((), FACES), ([], [], []))

    def test_kinds_of_values(self):
        found = read_back((page(1, [lines("a")], [lines("b")], [lines("c")]),), FACES)
        self.assertIsInstance(found, tuple)
        for part in found:
            self.assertIsInstance(part, list)
        self.assertIsInstance(found[1][0], list)

    def test_plain_pages(self):
        self.assertEqual(self.main(page(1, [lines("ab cd", "e")])), ["ab", "cd", "e"])
        self.assertEqual(self.main(page(1, [(), ()])), [])
        self.assertEqual(
            self.main(page(7, [lines("ab", "c"), lines("d")]), page(8, [(), ()]), page(9, [lines("e"), ()])),
            ["ab", "c", "d", "e"],
        )

    def test_a_hyphen_at_the_end_of_a_line(self):
        self.assertEqual(self.main(page(1, [lines("ab cd-", "ef gh")])), ["ab", "cdef", "gh"])
        self.assertEqual(self.main(page(1, [lines("ab-", "cd-", "ef")])), ["abcdef"])
        self.assertEqual(self.main(page(1, [lines("ab-c", "d")])), ["ab-c", "d"])
        self.assertEqual(self.main(page(1, [lines("ab- c", "d")])), ["ab-", "c", "d"])

    def test_a_hyphen_at_the_end_of_a_column_and_of_a_page(self):
        self.assertEqual(self.main(page(1, [lines("ab-"), lines("cd e-")]), page(2, [(), ()]), page(3, [lines("f")])), [
            "abcd", "ef",
        ])

    def test_floats_and_notes(self):
        pages = (
            page(1, [lines("a-")], [lines("x y"), lines("z-", "z")], [lines("n")]),
            page(2, [lines("b")], [], [lines("m-", "o p"), lines("q")]),
            page(3, [()], [lines("w")]),
        )
        self.assertEqual(read_back(pages, FACES), (
            ["ab"], [["x", "y"], ["zz"], ["w"]], [["n"], ["mo", "p"], ["q"]],
        ))

    def test_words_of_two_sizes(self):
        first = ((0, "a", 1, "plain"), (3, "b", 2, "bold"), (13, "-", 2, "bold"))
        self.assertEqual(self.main(page(1, [((0, first), (9, row("cd")))])), ["abcd"])

    def test_large_numbers(self):
        far = 999999990
        self.assertEqual(self.main(page(999999999, [((999999999, row("ab", far)),)])), ["ab"])

    def test_a_set_document(self):
        root = read_document('(doc (p "ab|cd " (n "no|te") "ef" (f "flo|at x")) (p "see " @t) (p "c" #t))')
        sheet = Sheet.read("doc { size 1 }\np { place block; align left }\nn { place note }\nf { place float }")
        result = set_document(root, sheet, FACES, Settings(width=14, height=40, near="be|low"))
        self.assertEqual(result[0], "pages")
        self.assertEqual(read_back(result[2], FACES)[1:], ([["float", "x"]], [["note"]]))
        self.assertEqual(read_back(result[2], FACES)[0], ["abcd", "ef", "see", "below", "c"])

    def test_drawn_documents(self):
        source = random.Random(71)
        many = {"pages": 0, "hyphens": 0, "floats": 0, "notes": 0, "shown": 0}
        for _ in range(250):
            root, sheet, faces, settings = random_setting(source)
            result = set_document(root, sheet, faces, settings)
            if result[0] == "unset":
                continue
            flowed = flow(root, sheet, lost=settings.value("lost"))
            setting = PlainSetting(flowed, faces, settings)
            _, labels = setting.set(plain_assignments(len(flowed[4]), plain_classes(setting.of)))
            shown = tuple(
                setting.of["far"] + str(labels[label][1]) if form else setting.of["near"]
                for form, label in zip(result[1], flowed[4])
            )
            main = [word for runs, _ in flowed[0] for word in plain_words(resolve(runs, shown))]
            notes, floats = ([plain_words(runs) for runs, _ in flowed[at]] for at in (1, 2))
            self.assertEqual(read_back(result[2], faces), (main, floats, notes))
            many["pages"] += len(result[2]) > 1
            many["floats"] += len(floats)
            many["notes"] += len(notes)
            many["shown"] += max(result[1], default=0) > 0
            many["hyphens"] += sum(
                line[1][-1][1] == "-" for told in result[2] for column in told[2] for line in column
            )
        self.assertGreater(min(many.values()), 5, many)


if __name__ == "__main__":
    unittest.main()
