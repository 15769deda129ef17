"""Point 72: listings of printed pages."""

import random
import unittest

from stylepages.printing.listing import HeadedListing, Listing, NumberedListing
from stylepages.whole.setting import set_document
from tests.plain_setting import random_setting


def line(top, x, text):
    return (top, tuple((x + at, char, 1, "plain") for at, char in enumerate(text)))


PAGES = (
    (1, ((line(0, 0, "fl"), line(7, 1, "oat")), (line(14, 0, "g"),)), ((line(25, 0, "ab"),), (line(25, 120, "cd"),)), ()),
    (2, (), ((), ()), ((line(188, 0, "n"),),)),
)


class ListingTest(unittest.TestCase):
    def rows(self, *pages):
        return Listing(pages).rows()

    def test_the_example(self):
        self.assertEqual(self.rows((1, (), ((line(12, 0, "Helloyou"),),), ())), ["   1 column    12     0 Helloyou"])

    def test_the_order(self):
        self.assertEqual(Listing(PAGES).rows(), [
            "   1 float      0     0 fl",
            "   1 float      7     1 oat",
            "   1 float     14     0 g",
            "   1 column    25     0 ab",
            "   1 column    25   120 cd",
            "   2 note     188     0 n",
        ])

    def test_numbered(self):
        self.assertEqual(NumberedListing(PAGES).rows(), [
            "  1:    1 float      0     0 fl",
            "  2:    1 float      7     1 oat",
            "  3:    1 float     14     0 g",
            "  4:    1 column    25     0 ab",
            "  5:    1 column    25   120 cd",
            "  6:    2 note     188     0 n",
        ])

    def test_headed(self):
        self.assertEqual(HeadedListing(PAGES).rows(), ["pages: 2"] + NumberedListing(PAGES).rows())

    def test_no_pages(self):
        self.assertEqual(Listing(()).rows(), [])
        self.assertEqual(NumberedListing(()).rows(), [])
        self.assertEqual(HeadedListing(()).rows(), ["pages: 0"])

    def test_pages_without_lines(self):
        pages = ((1, (), ((),), ()), (2, (), ((), ()), ()))
        self.assertEqual(Listing(pages).rows(), [])
        self.assertEqual(NumberedListing(pages).rows(), [])
        self.assertEqual(HeadedListing(pages).rows(), ["pages: 2"])

    def test_large_numbers(self):
        self.assertEqual(self.rows((9999, (), ((line(99999, 99999, "a"),),), ())), ["9999 column 99999 99999 a"])
        self.assertEqual(
            self.rows((123456789, (), ((line(999999999, 100000, "a"),),), ())), ["123456789 column 999999999 100000 a"]
        )
        self.assertEqual(self.rows((10000, (), ((line(1, 2, "a"),),), ())), ["10000 column     1     2 a"])
        many = tuple((k, (), ((line(0, 0, "a"),),), ()) for k in range(1, 1002))
        rows = NumberedListing(many).rows()
        self.assertEqual(rows[8], "  9:    9 column     0     0 a")
        self.assertEqual(rows[98:100], [" 99:   99 column     0     0 a", "100:  100 column     0     0 a"])
        self.assertEqual(rows[999], "1000: 1000 column     0     0 a")
        self.assertEqual(HeadedListing(many).rows()[0], "pages: 1001")

    def test_letters_without_anything_between_them(self):
        letters = ((5, "a", 1, "plain"), (50, "b", 2, "bold"), (500, "-", 2, "bold"))
        self.assertEqual(self.rows((1, (), (((3, letters),),), ())), ["   1 column     3     5 ab-"])

    def test_new_lists(self):
        for kind in (Listing, NumberedListing, HeadedListing):
            listing = kind(PAGES)
            rows = listing.rows()
            self.assertIsInstance(rows, list)
            rows.clear()
            self.assertEqual(listing.rows(), kind(PAGES).rows())

    def test_the_family(self):
        self.assertTrue(issubclass(HeadedListing, NumberedListing))
        self.assertTrue(issubclass(NumberedListing, Listing))
        for kind in (Listing, NumberedListing, HeadedListing):
            self.assertIn("rows", vars(kind))

    def test_drawn_pages(self):
        source = random.Random(72)
        many = 0
        for _ in range(60):
            result = set_document(*random_setting(source))
            pages = result[2] if result[0] == "pages" else ()
            expected = []
            for number, floats, columns, notes in pages:
                for word, groups in (("float", floats), ("column", columns), ("note", notes)):
                    for lines in groups:
                        for top, letters in lines:
                            row = str(number).rjust(4) + " " + word.ljust(6) + " " + str(top).rjust(5) + " "
                            expected.append(row + str(letters[0][0]).rjust(5) + " " + "".join(told[1] for told in letters))
            self.assertEqual(Listing(pages).rows(), expected)
            numbered = [str(at + 1).rjust(3) + ": " + row for at, row in enumerate(expected)]
            self.assertEqual(NumberedListing(pages).rows(), numbered)
            self.assertEqual(HeadedListing(pages).rows(), ["pages: " + str(len(pages))] + numbered)
            many += len(expected)
        self.assertGreater(many, 100)


if __name__ == "__main__":
    unittest.main()
