"""Points 69 and 70: set lines and blocks."""

import random
import unittest

from stylepages.faces.face import Face
from stylepages.lines.breaking import break_lines
from stylepages.lines.measure import Measure
from stylepages.lines.prices import line_price
from stylepages.printing.places import print_block, print_line
from stylepages.words.resolve import measures_of
from stylepages.words.shape import bare, shape
from tests.plain_lines import random_measure
from tests.plain_setting import faces_of, plain_line, random_words
from tests.plain_words import plain_pieces

# The pieces of the example of point 43.
EXAMPLE = (
    (
        (4, (("a", 0, 2, "plain"), ("b", 2, 2, "plain")), ()),
        (2, (("c", 0, 2, "plain"),), ()),
        (2, (("d", 0, 2, "plain"),), (("note", 0),)),
    ),
    (("hyphen", 2, 0, ("-", 0, 2, "plain")), ("gap", 2, 2, 0)),
)


def pieces_of(text, faces, size=1, face="plain"):
    resolved = (("text", text, size, face),)
    return shape(resolved, measures_of(resolved, faces))


class LineTest(unittest.TestCase):
    def xs(self, pieces, start, end, measure, **given):
        return [(letter[0], letter[1]) for letter in print_line(pieces, start, end, measure, **given)[1]]

    def words(self, text, start, end, measure, **given):
        """Return the x of the first letter of each box, with letters that are 10 wide and spaces of (4, 2, 1)."""
        letters = {char: (10, ()) for char in "0123456789-abcd"}
        pieces = pieces_of(text, {"plain": Face(letters)})
        return [x for x, _ in self.xs(pieces, start, end, measure, **given)]

    def test_a_plain_line(self):
        self.assertEqual(print_line(EXAMPLE, 0, 3, Measure(10)), (0, (
            (0, "a", 2, "plain"), (2, "b", 2, "plain"), (4, "c", 2, "plain"), (8, "d", 2, "plain"),
        )))

    def test_kinds_of_values(self):
        found = print_line(EXAMPLE, 0, 3, Measure(10))
        self.assertIsInstance(found, tuple)
        self.assertIsInstance(found[1], tuple)
        for letter in found[1]:
            self.assertIsInstance(letter, tuple)

    def test_left_and_top(self):
        self.assertEqual(print_line(EXAMPLE, 1, 3, Measure(6), left=30, top=7), (7, (
            (30, "c", 2, "plain"), (34, "d", 2, "plain"),
        )))
        self.assertEqual(print_line(EXAMPLE, 2, 3, Measure(9), top=1), (1, ((0, "d", 2, "plain"),)))
        self.assertEqual(print_line(EXAMPLE, 2, 3, Measure(9), left=1), (0, ((1, "d", 2, "plain"),)))

    def test_a_hyphen_at_the_end(self):
        self.assertEqual(print_line(EXAMPLE, 0, 1, Measure(6)), (0, (
            (0, "a", 2, "plain"), (2, "b", 2, "plain"), (4, "-", 2, "plain"),
        )))
        self.assertEqual(print_line(EXAMPLE, 0, 1, Measure(9, indent=3), left=20, top=5), (5, (
            (23, "a", 2, "plain"), (25, "b", 2, "plain"), (27, "-", 2, "plain"),
        )))

    def test_a_hyphen_within_the_line_is_not_printed(self):
        self.assertEqual(self.xs(EXAMPLE, 0, 2, Measure(6)), [(0, "a"), (2, "b"), (4, "c")])

    def test_a_first_line_is_indented(self):
        self.assertEqual(self.words("a b c", 0, 2, Measure(31, indent=7)), [7, 21])
        self.assertEqual(self.words("a b c", 1, 3, Measure(24, indent=7)), [0, 14])
        self.assertEqual(self.words("a", 0, 1, Measure(90, indent=7, align="left"), left=2), [9])

    def test_stretched_lines(self):
        self.assertEqual(self.words("a b c d", 0, 3, Measure(38)), [0, 14, 28])
        self.assertEqual(self.words("a b c d", 0, 3, Measure(41)), [0, 15, 31])
        self.assertEqual(self.words("a b c d", 0, 3, Measure(46)), [0, 18, 36])
        self.assertEqual(self.words("a b c d", 0, 3, Measure(41), left=100), [100, 115, 131])

    def test_shrunk_lines(self):
        self.assertEqual(self.words("a b c d", 0, 3, Measure(37)), [0, 14, 27])
        self.assertEqual(self.words("a b c d", 0, 3, Measure(36)), [0, 13, 26])
        self.assertEqual(self.words("a b c", 0, 3, Measure(37)), [0, 14, 27])

    def test_last_lines_are_not_stretched(self):
        self.assertEqual(self.words("a b c", 0, 3, Measure(99)), [0, 14, 28])
        self.assertEqual(self.words("a b c", 1, 3, Measure(99)), [0, 14])

    def test_lines_to_the_left(self):
        self.assertEqual(self.words("a b c d", 0, 3, Measure(41, align="left")), [0, 14, 28])
        self.assertEqual(self.words("a b c d", 0, 3, Measure(41, align="left", indent=3)), [3, 17, 31])

    def test_letters_of_one_box_with_kerns(self):
        letters = {char: (10, ()) for char in "0123456789-abcd"}
        faces = {"plain": Face(letters, kerns={"ab": 3, "bc": 1, "b-": 2, "-c": 9, "c-": 4})}
        pieces = pieces_of("ab|c", faces, size=2)
        self.assertEqual(self.xs(pieces, 0, 2, Measure(99)), [(0, "a"), (14, "b"), (32, "c")])
        self.assertEqual(self.xs(pieces, 0, 1, Measure(50)), [(0, "a"), (14, "b"), (30, "-")])
        self.assertEqual(self.xs(pieces, 1, 2, Measure(99)), [(0, "c")])
        pieces = pieces_of("c|ab", faces)
        self.assertEqual(self.xs(pieces, 0, 1, Measure(16), left=3), [(3, "c"), (9, "-")])

    def test_sizes_and_faces(self):
        faces = {"plain": Face.even(3), "bold": Face.even(5)}
        resolved = (("text", "a", 1, "plain"), ("text", "b| ", 2, "bold"), ("shown", 0, "c", 3, "plain"))
        pieces = shape(resolved, measures_of(resolved, faces))
        self.assertEqual(print_line(pieces, 0, 2, Measure(90))[1], (
            (0, "a", 1, "plain"), (3, "b", 2, "bold"), (23, "c", 3, "plain"),
        ))

    def test_against_a_plain_reading(self):
        source = random.Random(70)
        many = {"hyphen": 0, "other": 0}
        for _ in range(400):
            faces = faces_of("slanted")
            size = source.randint(1, 2)
            resolved = (
                ("text", random_words(source, "VAixol", source.randint(1, 5)), size, "plain"),
                ("text", random_words(source, "VAixol", source.randint(1, 3)), size, source.choice(["plain", "bold"])),
            )
            pieces = shape(resolved, measures_of(resolved, faces))
            self.assertEqual(pieces, plain_pieces(resolved, faces))
            row = bare(pieces)
            measure = random_measure(source, 120)
            left, top = source.choice([0, 5]), source.choice([0, 9])
            for start in range(len(row[0])):
                for end in range(start + 1, len(row[0]) + 1):
                    if line_price(row, start, end, measure) is not None:
                        found = print_line(pieces, start, end, measure, left=left, top=top)
                        self.assertEqual(found, plain_line(pieces, start, end, measure, left, top))
                        xs = [letter[0] for letter in found[1]]
                        self.assertEqual(xs, sorted(set(xs)))
                        many["hyphen" if found[1][-1][1] == "-" else "other"] += 1
        self.assertGreater(min(many.values()), 100, many)


class BlockTest(unittest.TestCase):
    def test_tops(self):
        found = print_block(EXAMPLE, (1, 3), Measure(6), 12)
        self.assertEqual(found, (
            print_line(EXAMPLE, 0, 1, Measure(6)), print_line(EXAMPLE, 1, 3, Measure(6), top=12),
        ))
        self.assertEqual([line[0] for line in print_block(EXAMPLE, (1, 2, 3), Measure(6), 7)], [0, 7, 14])
        self.assertEqual([line[0] for line in print_block(EXAMPLE, (1, 2, 3), Measure(6), 7, top=30)], [30, 37, 44])
        self.assertIsInstance(found, tuple)

    def test_one_line(self):
        self.assertEqual(
            print_block(EXAMPLE, (3,), Measure(10), 99, top=4), (print_line(EXAMPLE, 0, 3, Measure(10), top=4),)
        )

    def test_the_left_edge(self):
        for line in print_block(EXAMPLE, (1, 2, 3), Measure(8, indent=2), 7):
            self.assertEqual(line[1][0][0], 2 if line[0] == 0 else 0)

    def test_a_breaking(self):
        faces = {"plain": Face.even(2)}
        pieces = pieces_of("ab cd ef gh", faces)
        measure = Measure(10)
        ends = break_lines(bare(pieces), measure)[1]
        found = print_block(pieces, ends, measure, 5)
        self.assertEqual([(top, "".join(letter[1] for letter in letters)) for top, letters in found], [
            (0, "abcd"), (5, "efgh"),
        ])
        self.assertEqual([letter[0] for letter in found[1][1]], [0, 2, 6, 8])

    def test_arguments_stay(self):
        measure = Measure(6)
        print_block(EXAMPLE, (1, 3), measure, 12)
        self.assertEqual(measure.key(), Measure(6).key())


if __name__ == "__main__":
    unittest.main()
