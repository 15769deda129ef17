"""Points 64 and 65: the trial of an assignment."""

import random
import unittest

from stylepages.faces.face import Face
from stylepages.sheets.sheet import Sheet
from stylepages.tree.notation import read_document
from stylepages.whole.settings import Settings
from stylepages.whole.trial import try_assignment
from stylepages.words.flow import flow
from tests.plain_setting import PlainSetting, faces_of, plain_assignments, random_setting, random_words

STYLE = ("both", 0, 10, 1, "no", 0, 0)
FACES = {"plain": Face.even(1), "bold": Face.even(1)}


def text(words, size=1, face="plain"):
    return ("text", words, size, face)


def block(*runs, **given):
    """Return a paragraph, a note or a float."""
    names = ("align", "indent", "lead", "least", "keep", "above", "below")
    return (tuple(runs), tuple(given.get(name, default) for name, default in zip(names, STYLE)))


def flow_of(*paragraphs, notes=(), floats=(), labels=(), references=()):
    return (paragraphs, tuple(notes), tuple(floats), tuple(labels), tuple(references))


def ref(number):
    return ("ref", number, 1, "plain")


def mark(sort, number):
    return ("mark", sort, number)


class TrialTest(unittest.TestCase):
    def check(self, flowed, expected, assignment=(), faces=FACES, **given):
        self.assertEqual(try_assignment(flowed, faces, Settings(**given), assignment), expected)

    # Forms.

    def test_nothing(self):
        self.check(((), (), (), (), ()), ("forms", ()))
        self.check(((), (), (), (), ()), ("forms", ()), width=1, height=1, most=1)

    def test_no_references(self):
        self.check(flow_of(block(text("ab cd"))), ("forms", ()))
        self.check(flow_of(block(mark("label", 0), text("ab cd")), labels=["x"]), ("forms", ()))

    def test_kinds_of_values(self):
        found = try_assignment(flow_of(block(text("a"))), FACES, Settings(), ())
        self.assertIsInstance(found, tuple)
        self.assertIsInstance(found[1], tuple)

    def test_near_and_far_references(self):
        flowed = flow_of(
            block(text("a "), ref(0), ref(1)), block(text("b"), mark("label", 0)), block(text("c"), mark("label", 1)),
            labels=["x", "y"], references=[0, 1],
        )
        given = {"near": "x", "far": "y", "width": 40}
        self.check(flowed, ("forms", (0, 0)), (0, 0), height=30, **given)
        self.check(flowed, ("forms", (0, 1)), (0, 0), height=20, **given)
        self.check(flowed, ("forms", (1, 1)), (1, 0), height=10, **given)
        self.check(flowed, ("forms", (1, 2)), (2, 2), height=10, first=8, **given)
        self.check(flowed, ("forms", (2, 2)), (2, 2), height=10, first=9, **given)
        self.check(flowed, ("forms", (0, 2)), (2, 2), height=20, first=9, **given)
        self.check(flowed, ("forms", (3, 4)), (2, 2), height=10, first=998, **given)

    def test_a_label_before_its_reference(self):
        flowed = flow_of(block(mark("label", 0), text("a")), block(ref(0)), labels=["x"], references=[0])
        self.check(flowed, ("forms", (1,)), (0,), height=10, first=9)
        self.check(flowed, ("forms", (2,)), (0,), height=10, first=10)
        self.check(flowed, ("forms", (0,)), (0,), height=20)

    def test_two_references_to_one_label(self):
        flowed = flow_of(
            block(ref(0)), block(text("b"), mark("label", 1), mark("label", 0)), block(ref(1)),
            labels=["x", "y"], references=[1, 1],
        )
        self.check(flowed, ("forms", (0, 1)), (0, 0), height=20)
        self.check(flowed, ("forms", (1, 1)), (0, 0), height=10)

    def test_the_shown_texts(self):
        # Near is too wide for the first line, so the label comes on the second page.
        flowed = flow_of(block(text("ab "), ref(0), text(" cd"), mark("label", 0), align="left"), labels=["x"], references=[0])
        given = {"width": 5, "height": 20, "near": "xxxx", "far": "p"}
        self.check(flowed, ("forms", (1,)), (0,), **given)
        self.check(flowed, ("forms", (0,)), (1,), **given)
        self.check(flowed, ("forms", (1,)), (2,), **given)
        self.check(flowed, ("forms", (1,)), (1,), **{**given, "far": "pp"})

    def test_a_mark_stands_with_its_box(self):
        # The label belongs to the last letter before it, though a space stands between them.
        flowed = flow_of(block(text("ab"), text(" "), mark("label", 0), text("cd "), ref(0)), labels=["x"], references=[0])
        given = {"width": 2, "height": 10, "near": "xx"}
        self.check(flowed, ("forms", (1,)), (0,), **given)
        flowed = flow_of(block(text("ab cd "), mark("label", 0), ref(0)), labels=["x"], references=[0])
        self.check(flowed, ("forms", (1,)), (0,), **given)
        flowed = flow_of(block(text("ab cd "), ref(0), mark("label", 0)), labels=["x"], references=[0])
        self.check(flowed, ("forms", (0,)), (0,), **given)

    # Letters.

    def test_letters(self):
        faces = {"plain": Face({char: (1, ()) for char in "0123456789-ab"}), "bold": Face.even(1)}
        self.check(flow_of(block(text("ab"))), ("forms", ()), faces=faces)
        self.check(flow_of(block(text("abcd"))), ("letter", "c"), faces=faces)
        self.check(flow_of(block(text("abcd", 1, "bold"))), ("forms", ()), faces=faces)
        self.check(flow_of(block(text("c", 1, "bold"), text("a b d c"))), ("letter", "d"), faces=faces)
        self.check(flow_of(block(text("ab")), block(text("x")), block(text("y"))), ("letter", "x"), faces=faces)
        self.check(flow_of(block(text("a")), notes=[block(text("a")), block(text("n"))]), ("letter", "n"), faces=faces)
        self.check(flow_of(block(text("a")), floats=[block(text("f"))]), ("letter", "f"), faces=faces)
        marked = block(text("a"), mark("note", 0), mark("float", 0))
        self.check(
            flow_of(marked, notes=[block(text("n"))], floats=[block(text("f"))]), ("letter", "n"), faces=faces
        )

    def test_letters_of_shown_texts(self):
        faces = {"plain": Face({char: (1, ()) for char in "0123456789-ab"}), "bold": Face.even(1)}
        flowed = flow_of(block(ref(0), text("a"), mark("label", 0)), labels=["x"], references=[0])
        self.check(flowed, ("letter", "h"), (0,), faces=faces)
        self.check(flowed, ("letter", "p"), (1,), faces=faces)
        self.check(flowed, ("forms", (0,)), (1,), faces=faces, far="a")
        self.check(flowed, ("letter", "c"), (1,), faces=faces, far="a|c")

    # Lines.

    def test_lines(self):
        wide = text("abcdef")
        self.check(flow_of(block(wide)), ("line", "paragraph", 0, 0, 1), width=5)
        self.check(flow_of(block(wide)), ("forms", ()), width=6)
        self.check(flow_of(block(text("ab")), block(text("abcde "), wide)), ("line", "paragraph", 1, 1, 2), width=5)
        self.check(flow_of(block(text("a")), notes=[block(wide)]), ("line", "note", 0, 0, 1), width=5)
        self.check(
            flow_of(block(text("a")), notes=[block(text("a"))], floats=[block(text("a")), block(text("a"), wide)]),
            ("line", "float", 1, 0, 1), width=5,
        )

    def test_the_measure(self):
        two = text("ab cd")
        self.check(flow_of(block(two, indent=1)), ("line", "paragraph", 0, 0, 1), width=5)
        self.check(flow_of(block(two, indent=1, align="left")), ("forms", ()), width=5)
        self.check(flow_of(block(two, indent=1)), ("forms", ()), width=6)
        three = text("ab cd ef")
        self.check(flow_of(block(three)), ("forms", ()), width=7)
        self.check(flow_of(block(three)), ("line", "paragraph", 0, 0, 1), width=7, loose=1)
        self.check(flow_of(block(text("ab cd ab cd"))), ("forms", ()), width=5)
        self.check(flow_of(block(text("ab cd ab cd"))), ("line", "paragraph", 0, 0, 3), width=5, river=1)

    def test_the_width_of_notes_and_floats(self):
        wide = block(text("abcdefghijkl"))
        given = {"width": 5, "columns": 2, "gutter": 2}
        for place, sort in (("notes", "note"), ("floats", "float")):
            flowed = flow_of(block(text("a"), mark(sort, 0)), **{place: [wide]})
            self.check(flowed, ("forms", ()), **given)
            self.check(flowed, ("line", sort, 0, 0, 1), **{**given, "gutter": 1})
            self.check(flowed, ("line", sort, 0, 0, 1), **{**given, "columns": 1})
        self.check(flow_of(wide), ("line", "paragraph", 0, 0, 1), **given)

    # Pages.

    def test_pages(self):
        self.check(flow_of(block(text("a"))), ("page", 0), height=9)
        self.check(flow_of(block(text("a")), block(text("b"), lead=20)), ("page", 1), height=19)
        self.check(flow_of(block(text("a")), block(text("b"), keep="yes"), block(text("c"))), ("page", 1), height=19)
        # The heights of the note and of the rule leave too little for the line.
        noted = flow_of(block(text("a"), mark("note", 0)), notes=[block(text("x"), lead=7)])
        self.check(noted, ("page", 0), height=20)
        self.check(noted, ("forms", ()), height=21)
        self.check(noted, ("forms", ()), height=17, rule=0)

    def test_the_height_of_notes_and_floats(self):
        # Two lines of 5; what the style of a note says of spaces and pages does not matter.
        two = block(text("ab cd"), lead=5, least=4, keep="yes", above=90, below=90)
        noted = flow_of(block(text("a"), mark("note", 0)), notes=[two])
        self.check(noted, ("forms", ()), width=2, height=20, rule=0)
        self.check(noted, ("page", 0), width=2, height=19, rule=0)
        floating = flow_of(block(text("a"), mark("float", 0)), floats=[two])
        self.check(floating, ("forms", ()), width=2, height=20, under=0, wait=0)
        self.check(floating, ("page", 0), width=2, height=19, under=0, wait=0)
        self.check(floating, ("forms", ()), width=2, height=10, under=0, wait=1)

    def test_the_styles_of_paragraphs(self):
        three = text("a b c")
        flowed = flow_of(block(three, least=2))
        self.check(flowed, ("page", 0), width=1, height=20)
        self.check(flowed, ("forms", ()), width=1, height=30)
        spaced = flow_of(block(text("a"), below=5, keep="yes"), block(text("b"), above=6))
        self.check(spaced, ("page", 0), height=25)
        self.check(spaced, ("forms", ()), height=26)

    def test_too_many_pages(self):
        flowed = flow_of(*[block(text("a"))] * 5)
        self.check(flowed, ("most", 5), height=10, most=4)
        self.check(flowed, ("forms", ()), height=10, most=5)
        self.check(flowed, ("most", 3), height=20, most=1)
        self.check(flowed, ("most", 3), height=10, most=2, columns=2)

    # Which verdict comes first.

    def test_the_order_of_the_faults(self):
        faces = {"plain": Face({char: (1, ()) for char in "0123456789-ab"}), "bold": Face.even(1)}
        wide, strange, good = block(text("aaaaaa")), block(text("z")), block(text("a"))
        given = {"faces": faces, "width": 5, "height": 9, "most": 1}
        self.check(flow_of(wide, strange), ("line", "paragraph", 0, 0, 1), **given)
        self.check(flow_of(strange, wide), ("letter", "z"), **given)
        self.check(flow_of(block(text("zaaaaa"))), ("letter", "z"), **given)
        self.check(flow_of(good, strange, notes=[wide]), ("letter", "z"), **given)
        self.check(flow_of(good, notes=[wide], floats=[strange]), ("line", "note", 0, 0, 1), **given)
        self.check(flow_of(good, notes=[strange], floats=[wide]), ("letter", "z"), **given)
        self.check(flow_of(good, floats=[wide]), ("line", "float", 0, 0, 1), **given)
        self.check(flow_of(good, good), ("page", 0), **given)
        self.check(flow_of(good, good), ("most", 2), **{**given, "height": 10})

    # Flows that no document makes.

    def test_runs_side_by_side(self):
        flowed = flow_of(block(text("a"), text("b"), text(" c")))
        self.check(flowed, ("forms", ()), width=2, height=20)
        self.check(flowed, ("line", "paragraph", 0, 0, 1), width=1)

    def test_marks_out_of_order(self):
        flowed = flow_of(
            block(text("a"), mark("note", 1), mark("label", 1)), block(text("b"), mark("note", 0), mark("label", 0), ref(1)),
            block(ref(0)), notes=[block(text("x"), lead=3), block(text("y"), lead=9)], labels=["v", "u"], references=[1, 0],
        )
        given = {"near": "x", "rule": 0, "under": 0}
        self.check(flowed, ("forms", (1, 0)), (0, 0), height=19, **given)
        self.check(flowed, ("page", 0), (0, 0), height=18, **given)
        self.check(flowed, ("forms", (0, 0)), (0, 0), height=42, **given)

    def test_arguments_stay(self):
        faces, settings = {"plain": Face.even(1), "bold": Face.even(1)}, Settings(width=7)
        before = settings.data()
        try_assignment(flow_of(block(text("a b"))), faces, settings, ())
        self.assertEqual(settings.data(), before)
        self.assertEqual(sorted(faces), ["bold", "plain"])

    # Plain searches.

    def test_drawn_documents(self):
        source = random.Random(65)
        verdicts = {}
        for _ in range(150):
            root, sheet, faces, settings = random_setting(source)
            flowed = flow(root, sheet, lost=settings.value("lost"))
            for assignment in plain_assignments(len(flowed[4]), source.choice([(1,), (1, 2), (2, 3)])):
                found = try_assignment(flowed, faces, settings, assignment)
                self.assertEqual(found, PlainSetting(flowed, faces, settings).attempt(assignment))
                verdicts[found[0]] = verdicts.get(found[0], 0) + 1
        self.assertEqual(sorted(verdicts), ["forms", "letter", "line", "most", "page"])

    def test_drawn_flows(self):
        source = random.Random(651)
        for _ in range(150):
            faces = faces_of("slanted")
            paragraphs = []
            for number in range(source.randint(1, 4)):
                runs = [text(random_words(source, "VAixol", 4)), text(random_words(source, "Vix", 2), 1, "bold")]
                runs += [mark("label", number), mark("note", number), mark("float", number)]
                runs.append(("ref", number, 1, source.choice(["plain", "bold"])))
                source.shuffle(runs)
                paragraphs.append(block(
                    *runs, align=source.choice(["both", "left"]), least=source.randint(1, 3), below=source.choice([0, 6]),
                    keep=source.choice(["yes", "no", "no"]),
                ))
            many = len(paragraphs)
            asides = [block(text(random_words(source, "Aol", 3)), lead=source.randint(2, 9)) for _ in range(many)]
            flowed = flow_of(
                *paragraphs, notes=asides, floats=asides[::-1], labels=["x"] * many,
                references=[source.randrange(many) for _ in range(many)],
            )
            settings = Settings(
                width=source.randint(60, 120), height=source.randint(30, 90), near="x", far="o", loose=9,
                columns=source.randint(1, 2), first=source.choice([1, 9, 98]), wait=source.randint(0, 3),
            )
            assignment = tuple(source.randint(0, 2) for _ in range(many))
            found = try_assignment(flowed, faces, settings, assignment)
            self.assertEqual(found, PlainSetting(flowed, faces, settings).attempt(assignment))


class ExampleTest(unittest.TestCase):
    def test_the_flow_of_a_document(self):
        root = read_document('(doc (p "ab|c d" (n "x")))')
        flowed = flow(root, Sheet.read("p { place block }\nn { place note }"))
        self.assertEqual(try_assignment(flowed, FACES, Settings(width=10, height=28), ()), ("forms", ()))
        self.assertEqual(try_assignment(flowed, FACES, Settings(width=10, height=27), ()), ("page", 0))
        self.assertEqual(try_assignment(flowed, FACES, Settings(width=5), ()), ("line", "paragraph", 0, 0, 1))


if __name__ == "__main__":
    unittest.main()
