"""Point 13: the written form of documents."""

import random
import unittest

from stylepages.errors import BadDocument
from stylepages.tree.notation import read_document, write_document
from tests.support import PRINTABLE, SAMPLE, TEXT_SIGNS, nested, random_document

HELLO = ("doc", (), ("Hello ", ("em", ("red",), ("you",)), ("#", "top")))
WRITTEN = '(doc "Hello " (em.red "you") #top)'


class WriteTest(unittest.TestCase):
    def test_examples(self):
        self.assertEqual(write_document(HELLO), WRITTEN)
        self.assertEqual(write_document(("doc", (), ())), "(doc)")

    def test_all_kinds_of_items(self):
        self.assertEqual(
            write_document(SAMPLE),
            '(doc.a.b "one" (p "two" (em.red "three" #top) @top) #top (p) "four")',
        )

    def test_parts_beyond_the_bounds(self):
        self.assertEqual(write_document(nested(20)), "(p " * 19 + "(p)" + ")" * 19)
        self.assertEqual(write_document(("p", (), ("x",) * 299)), "(p" + ' "x"' * 299 + ")")


class ReadTest(unittest.TestCase):
    def refuse(self, text):
        with self.assertRaises(BadDocument, msg=text):
            read_document(text)

    def test_examples(self):
        self.assertEqual(read_document(WRITTEN), HELLO)
        self.assertEqual(read_document("(doc)"), ("doc", (), ()))

    def test_there_and_back(self):
        source = random.Random(13)
        for _ in range(300):
            root = random_document(source)
            self.assertEqual(read_document(write_document(root)), root)

    def test_every_text_character(self):
        for sign in PRINTABLE + "\n":
            text = f'(p "a{sign}b")'
            if sign in TEXT_SIGNS:
                self.assertEqual(read_document(text), ("p", (), (f"a{sign}b",)))
            else:
                self.refuse(text)

    def test_parentheses_in_texts(self):
        self.assertEqual(read_document('(p ")(" "(p)")'), ("p", (), (")(", "(p)")))

    def test_spaces(self):
        for text in (" (p)", "(p) ", "( p)", "(p )", '(p  "x")', '(p "x" )', '(p "x""y")', '(p"x")', "(p .a)",
                     "(p. a)", "(p (q) )", "(p  )", "(p(q))", "(p # a)", "(p @ a)"):
            self.refuse(text)

    def test_line_feeds(self):
        for text in ("(p)\n", "\n(p)", "(p\n)", '(p\n"x")', '(p "x\n")', "(p #a\n)"):
            self.refuse(text)

    def test_parentheses(self):
        for text in ("", "(", ")", "()", "(p", "p)", "(p))", "((p)", "(p))(p", "(p)(p)", "(p (q)", "(p (q)))", "p"):
            self.refuse(text)

    def test_something_behind_the_end(self):
        for text in ("(p)x", '(p)"x"', "(p)#a", "(p) (q)", WRITTEN + "."):
            self.refuse(text)

    def test_items_that_are_no_documents(self):
        for text in ('"x"', "#a", "@a"):
            self.refuse(text)

    def test_marks(self):
        self.assertEqual(read_document("(p.a.b.c)"), ("p", ("a", "b", "c"), ()))
        for text in ("(p.b.a)", "(p.a.a)", "(p.a.b.c.d)", "(p.)", "(.a)", "(p..a)", "(p.a.)", "(p.A)", "(p.*)"):
            self.refuse(text)

    def test_names(self):
        self.assertEqual(read_document("(abcdefgh.abcdefgh #abcdefgh @abcdefgh)")[0], "abcdefgh")
        for text in ("(abcdefghi)", "(p.abcdefghi)", "(p #abcdefghi)", "(p @abcdefghi)", "(p #)", "(p @)", "(P)",
                     "(p1)", "(*)", "(p #A)", "(p ##a)", "(p @@)", "(p a)"):
            self.refuse(text)

    def test_texts(self):
        self.assertEqual(read_document('(p "' + "x" * 60 + '")')[2], ("x" * 60,))
        for text in ('(p "")', '(p "' + "x" * 61 + '")', '(p "x)', '(p x")', '(p ")', '(p """)', "(p 'x')"):
            self.refuse(text)

    def test_bounds(self):
        self.assertEqual(read_document("(p " * 5 + "(p)" + ")" * 5), nested(6))
        self.refuse("(p " * 6 + "(p)" + ")" * 6)
        self.assertEqual(read_document("(p" + " #a" * 12 + ")")[2], (("#", "a"),) * 12)
        self.refuse("(p" + " #a" * 13 + ")")
        self.refuse("(p" + " @a" * 4 + ")")
        twelve = " (p" + " #a" * 12 + ")"
        self.assertEqual(len(read_document("(p" + twelve * 4 + " #a" * 7 + ")")[2]), 11)
        self.refuse("(p" + twelve * 4 + " #a" * 8 + ")")
        text = ' "' + "x" * 50 + '"'
        self.assertEqual(len(read_document("(p" + text * 8 + ")")[2]), 8)
        self.refuse("(p" + text * 8 + ' "x")')

    def test_long_strings(self):
        self.refuse("(" * 4000)
        self.refuse(("(a " * 4000)[:4000])
        self.refuse("(a " * 999 + "(a)" + ")" * 999)
        self.refuse("(" + "a" * 3999)
        self.refuse("(a" + ".a" * 1999)
        self.refuse(("(a" + " (a)" * 1000)[:3999] + ")")
        self.refuse(")" * 4000)
        self.refuse('"' * 4000)
        self.refuse(" " * 4000)
        self.refuse("\n" * 4000)

    def test_a_changed_sign_is_never_read_as_the_same(self):
        for at in range(len(WRITTEN)):
            for sign in '() ".#@a-':
                text = WRITTEN[:at] + sign + WRITTEN[at + 1:]
                try:
                    root = read_document(text)
                except BadDocument:
                    continue
                self.assertEqual(write_document(root), text)


if __name__ == "__main__":
    unittest.main()
