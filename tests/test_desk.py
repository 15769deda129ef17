"""Points 77 to 84: the desk."""

import random
import unittest

from stylepages.desk.desk import Desk
from stylepages.errors import (
    BadLetter, BadPath, BadSetting, MissingLetter, NothingToRedo, NothingToUndo, OpenOutline, Refused, StyleError, TooLarge,
    UnevenFigures,
)
from stylepages.faces.face import Face
from stylepages.sheets.sheet import Sheet
from stylepages.tree.notation import read_document
from stylepages.whole.setting import cells_of, set_document
from stylepages.whole.settings import Settings
from tests.plain_desk import BOX, OPEN, PlainDesk, random_edit
from tests.plain_setting import random_setting

BASE = "doc { size 1; lead 10 }\np { place block }\nn { place note }"
ROOT = read_document('(doc (p "ab cd" @t) (p "ef" (em "gh") #t))')
RULE = Sheet.read("em { face bold }")[0]

# An edit of each sort of point 78, with its inverse on `new_desk()`.
EDITS = (
    (("put", (0, 1), "x"), ("take", (0, 1))),
    (("put", (2,), ("p", (), ("x",))), ("take", (2,))),
    (("put", (1, 0), ("@", "t")), ("take", (1, 0))),
    (("put", (1, 3), ("#", "t")), ("take", (1, 3))),
    (("take", (0, 0)), ("put", (0, 0), "ab cd")),
    (("take", (1,)), ("put", (1,), ("p", (), ("ef", ("em", (), ("gh",)), ("#", "t"))))),
    (("text", (0, 0), "ab"), ("text", (0, 0), "ab cd")),
    (("kind", (1, 1), "n"), ("kind", (1, 1), "em")),
    (("marks", (), ("m",)), ("marks", (), ())),
    (("wrap", (0, 0), 2, "em", ("m",)), ("open", (0, 0))),
    (("wrap", (1, 1), 0, "em", ()), ("open", (1, 1))),
    (("open", (1, 1)), ("wrap", (1, 1), 1, "em", ())),
    (("rule", 3, RULE), ("unrule", 3)),
    (("rule", 0, RULE), ("unrule", 0)),
    (("unrule", 1), ("rule", 1, Sheet.read("p { place block }")[0])),
    (("letter", "plain", "a", (3, (BOX,))), ("letter", "plain", "a", (1, ()))),
    (("letter", "bold", "x", None), ("letter", "bold", "x", (2, ()))),
    (("kern", "plain", "ab", 1), ("kern", "plain", "ab", None)),
    (("kern", "bold", "gh", None), ("kern", "bold", "gh", 1)),
    (("set", "width", 9), ("set", "width", 12)),
    (("set", "near", "x y"), ("set", "near", "here")),
)

# Edits that cannot be done on `new_desk()`, with their errors.
REFUSED = (
    (("put", (9, 0), "x"), BadPath), (("put", (0, 5), "x"), BadPath), (("take", ()), BadPath), (("text", (0,), "x"), BadPath),
    (("kind", (0, 0), "x"), BadPath), (("marks", (4,), ()), BadPath), (("wrap", (0, 0), 3, "x", ()), BadPath),
    (("open", (0, 0)), BadPath), (("put", (2,), ("p", (), ("x" * 60,) * 6 + ("x" * 35,))), TooLarge),
    (("rule", 4, RULE), BadPath), (("rule", -1, RULE), BadPath), (("unrule", 3), BadPath), (("unrule", -1), BadPath),
    (("letter", "plain", "0", None), MissingLetter), (("letter", "bold", "0", (9, ())), UnevenFigures),
    (("letter", "bold", "a", (9, (OPEN,))), BadLetter),
    (("set", "width", 0), BadSetting), (("set", "nothing", 1), BadSetting), (("set", "near", 1), BadSetting),
    (("set", "most", "x"), BadSetting),
)


def new_faces():
    bold = Face.even(2).with_kern("gh", 1)
    return {"plain": Face.even(1), "bold": bold}


def new_desk(**given):
    return Desk(ROOT, Sheet.read(BASE), new_faces(), Settings(**{"width": 12, "height": 30, **given}))


class DeskTest(unittest.TestCase):
    def picture(self, desk):
        """Return all that a desk tells."""
        return (
            desk.state(), desk.result, desk.kept(), desk.recomputed, desk.steps, desk.undone, desk.history(),
        )

    def check_state(self, desk):
        """The result and the cells are those of setting the state from scratch."""
        root, rules, plain, bold, settings = desk.state()
        given = (root, Sheet(rules), {"plain": Face.of(plain), "bold": Face.of(bold)}, Settings(**dict(settings)))
        self.assertEqual(desk.result, set_document(*given))
        self.assertEqual(desk.kept(), cells_of(*given))

    def check_edits(self, desk, *edits):
        """Do a step, and compare what is recomputed with what was kept."""
        before = desk.kept()
        steps = desk.steps
        self.assertIsNone(desk.do(*edits))
        self.check_state(desk)
        self.assertEqual(desk.recomputed, [cell for cell in desk.kept() if cell not in before])
        self.assertEqual((desk.steps, desk.undone, desk.history()[-1]), (steps + 1, 0, edits))

    # Points 77 and 83.

    def test_a_new_desk(self):
        desk = new_desk()
        self.check_state(desk)
        self.assertEqual(desk.state(), (
            ROOT, tuple(Sheet.read(BASE)), Face.even(1).data(), new_faces()["bold"].data(),
            Settings(width=12, height=30).data(),
        ))
        self.assertEqual(desk.result[0], "pages")
        self.assertEqual(desk.recomputed, desk.kept())
        self.assertEqual((desk.steps, desk.undone, desk.history()), (0, 0, []))

    def test_kinds_of_values(self):
        desk = new_desk()
        desk.do(("set", "width", 9))
        self.assertIsInstance(desk.state(), tuple)
        self.assertIsInstance(desk.result, tuple)
        for found in (desk.kept(), desk.recomputed, desk.history()):
            self.assertIsInstance(found, list)
        self.assertIsInstance(desk.history()[0], tuple)
        for found in (desk.steps, desk.undone):
            self.assertIsInstance(found, int)
        self.assertIsNone(desk.undo())
        self.assertIsNone(desk.redo())
        self.assertIsNone(desk.do())

    def test_an_unset_desk(self):
        desk = new_desk(height=9)
        self.assertEqual(desk.result[0], "unset")
        self.check_state(desk)
        self.check_edits(desk, ("set", "height", 40))
        self.assertEqual(desk.result[0], "pages")

    # Points 78, 79 and 81.

    def test_each_sort_of_edit(self):
        for edit, inverse in EDITS:
            desk = new_desk()
            first = self.picture(desk)
            self.assertEqual(desk.inverse(edit), inverse, edit)
            self.assertEqual(self.picture(desk), first)
            self.check_edits(desk, edit)
            self.assertNotEqual(desk.state(), first[0], edit)
            self.assertEqual(desk.inverse(inverse), edit, edit)
            self.check_edits(desk, inverse)
            self.assertEqual(desk.state(), first[0], edit)
            self.assertEqual((desk.result, desk.kept()), first[1:3])
            self.assertEqual(desk.history(), [(edit,), (inverse,)])

    def test_one_step_of_several_edits(self):
        for count in (2, 5, len(EDITS)):
            edits = [("set", "width", 9 + k) for k in range(count)]
            desk = new_desk()
            self.check_edits(desk, *edits)
            self.assertEqual(desk.steps, 1)
            desk.undo()
            self.assertEqual(desk.state(), new_desk().state())

    def test_the_state_between_the_edits_is_not_set(self):
        desk = new_desk()
        self.check_edits(desk, ("set", "height", 1), ("set", "width", 1), ("set", "width", 12), ("set", "height", 30))
        self.assertEqual(desk.recomputed, [])
        self.check_edits(desk, ("unrule", 1), ("put", (1,), ("p", (), ("xx",))), ("rule", 1, RULE))

    def test_a_later_edit_sees_the_earlier_ones(self):
        desk = new_desk()
        self.check_edits(desk, ("put", (2,), ("p", (), ())), ("put", (2, 0), "xyz"), ("text", (2, 0), "xy"))
        self.assertEqual(desk.state()[0][2][2], ("p", (), ("xy",)))

    def test_a_step_whose_edits_change_nothing(self):
        desk = new_desk()
        for edits in (
            [("set", "width", 12)], [("kern", "plain", "xx", None)], [("letter", "plain", "a", (1, ()))],
            [("text", (0, 0), "ab cd")], [("kind", (), "doc")],
        ):
            self.check_edits(desk, *edits)
            self.assertEqual(desk.recomputed, [])
        self.assertEqual(desk.steps, 5)
        self.assertEqual(desk.state(), new_desk().state())

    def test_a_do_without_edits(self):
        desk = new_desk()
        desk.do(("set", "width", 9))
        desk.do(("set", "width", 8))
        desk.undo()
        before = self.picture(desk)
        desk.do()
        self.assertEqual(self.picture(desk), before)
        self.assertEqual((desk.steps, desk.undone), (1, 1))

    def test_refused_edits(self):
        for edit, error in REFUSED:
            desk = new_desk()
            desk.do(("set", "width", 9))
            desk.do(("set", "width", 12))
            desk.undo()
            desk.redo()
            before = self.picture(desk)
            for count in (0, 1, 3):
                edits = [("set", "hyphen", k) for k in range(count)] + [edit, ("set", "width", 7)]
                for method in (desk.do, desk.would):
                    with self.assertRaises(Refused) as caught:
                        method(*edits)
                    self.assertEqual(caught.exception.index, count)
                    self.assertIs(type(caught.exception.__cause__), error)
                    self.assertEqual(self.picture(desk), before)
            with self.assertRaises(error):
                desk.inverse(edit)
            self.assertEqual(self.picture(desk), before)

    def test_the_causes_of_refused_edits(self):
        desk = new_desk()
        for edit, attributes in (
            (("set", "nothing", 1), {"name": "nothing"}), (("letter", "bold", "-", None), {"char": "-"}),
            (("letter", "plain", "q", (3, (BOX, OPEN))), {"char": "q"}),
        ):
            with self.assertRaises(Refused) as caught:
                desk.do(edit)
            cause = caught.exception.__cause__
            self.assertIsInstance(cause, StyleError)
            self.assertEqual(vars(cause), attributes)
        self.assertIsInstance(cause.__cause__, OpenOutline)
        self.assertEqual(cause.__cause__.place, 1)

    def test_the_first_refused_edit_counts(self):
        desk = new_desk()
        with self.assertRaises(Refused) as caught:
            desk.do(("set", "width", 9), ("unrule", 7), ("set", "nothing", 1))
        self.assertEqual(caught.exception.index, 1)
        self.assertIsInstance(caught.exception.__cause__, BadPath)

    def test_too_many_rules(self):
        desk = new_desk()
        desk.do(*[("rule", 0, RULE)] * 9)
        self.assertEqual(len(desk.state()[1]), 12)
        for edit, error in ((("rule", 0, RULE), TooLarge), (("rule", 12, RULE), TooLarge), (("rule", 13, RULE), BadPath)):
            with self.assertRaises(Refused) as caught:
                desk.do(edit)
            self.assertIs(type(caught.exception.__cause__), error)
            self.assertRaises(error, desk.inverse, edit)

    def test_rules_get_the_next_numbers(self):
        desk = new_desk()
        other = Sheet.read("b { size 2 }")[0]
        desk.do(("rule", 1, RULE), ("rule", 1, other), ("unrule", 0))
        old = tuple(Sheet.read(BASE))
        self.assertEqual(desk.state()[1], (other, RULE, old[1], old[2]))

    def test_letters_and_kerns(self):
        desk = new_desk()
        desk.do(("letter", "plain", "c", None))
        self.assertEqual(desk.result, ("unset", tuple((((form,), ("letter", "c"))) for form in (0, 1, 2))))
        self.assertEqual(desk.inverse(("letter", "plain", "c", (4, ()))), ("letter", "plain", "c", None))
        self.assertEqual(desk.inverse(("letter", "plain", "c", None)), ("letter", "plain", "c", None))
        desk.do(("letter", "plain", "c", None))
        desk.do(("kern", "plain", "cd", 5), ("letter", "plain", "c", (7, ())), ("letter", "plain", "d", (8, ())))
        self.check_state(desk)
        self.assertEqual(desk.inverse(("kern", "plain", "cd", None)), ("kern", "plain", "cd", 5))
        rows = [row for stage, key in desk.kept() if stage == "pieces" for row in key[1]]
        self.assertIn(("pair", "plain", "c", "d", 5), rows)

    # Point 82.

    def test_undo_and_redo(self):
        desk = new_desk()
        first = self.picture(desk)
        pictures = [first]
        steps = [(("set", "width", 9),), (("take", (0,)), ("unrule", 2)), (("letter", "plain", "e", (2, ())),)]
        for step in steps:
            desk.do(*step)
            pictures.append(self.picture(desk))
        for number in (2, 1, 0):
            before = desk.kept()
            desk.undo()
            self.assertEqual((desk.state(), desk.result, desk.kept()), pictures[number][:3])
            self.assertEqual(desk.recomputed, [cell for cell in desk.kept() if cell not in before])
            self.assertEqual((desk.steps, desk.undone, desk.history()), (number, 3 - number, steps[:number]))
        for number in (1, 2, 3):
            before = desk.kept()
            desk.redo()
            self.assertEqual((desk.state(), desk.result, desk.kept()), pictures[number][:3])
            self.assertEqual(desk.recomputed, [cell for cell in desk.kept() if cell not in before])
            self.assertEqual((desk.steps, desk.undone, desk.history()), (number, 3 - number, steps[:number]))

    def test_a_step_behind_an_undo(self):
        desk = new_desk()
        desk.do(("set", "width", 9))
        desk.do(("set", "width", 10))
        desk.undo()
        desk.undo()
        desk.do(("set", "width", 11))
        self.assertEqual((desk.steps, desk.undone), (1, 0))
        self.assertRaises(NothingToRedo, desk.redo)
        desk.undo()
        self.assertEqual(desk.state(), new_desk().state())
        desk.redo()
        self.assertEqual(dict(desk.state()[4])["width"], 11)

    def test_a_refused_step_leaves_what_can_be_redone(self):
        desk = new_desk()
        desk.do(("set", "width", 9))
        desk.undo()
        self.assertRaises(Refused, desk.do, ("set", "width", 0))
        self.assertEqual(desk.undone, 1)
        desk.redo()
        self.assertEqual(desk.steps, 1)

    def test_nothing_to_undo_or_redo(self):
        desk = new_desk()
        before = self.picture(desk)
        self.assertRaises(NothingToUndo, desk.undo)
        self.assertRaises(NothingToRedo, desk.redo)
        self.assertEqual(self.picture(desk), before)
        desk.do(("set", "width", 9))
        before = self.picture(desk)
        self.assertRaises(NothingToRedo, desk.redo)
        self.assertEqual(self.picture(desk), before)
        desk.undo()
        before = self.picture(desk)
        self.assertRaises(NothingToUndo, desk.undo)
        self.assertEqual(self.picture(desk), before)

    def test_the_history_done_on_a_new_desk(self):
        source = random.Random(82)
        desk = new_desk()
        for edit, _ in EDITS:
            try:
                desk.do(edit, ("set", "late", source.randint(0, 9)))
            except Refused:
                pass
            if source.random() < 0.3:
                desk.undo()
        again = new_desk()
        for step in desk.history():
            again.do(*step)
        self.assertGreater(desk.steps, 5)
        self.assertEqual((again.state(), again.result, again.kept()), (desk.state(), desk.result, desk.kept()))
        self.assertEqual(again.history(), desk.history())

    # Point 84.

    def test_would(self):
        for edit, _ in EDITS:
            desk = new_desk()
            desk.do(("set", "late", 7))
            desk.do(("set", "late", 8))
            desk.undo()
            before = self.picture(desk)
            found = desk.would(edit, ("set", "height", 40))
            self.assertEqual(self.picture(desk), before)
            desk.do(edit, ("set", "height", 40))
            self.assertEqual(desk.result, found)

    def test_would_without_edits(self):
        desk = new_desk()
        desk.do(("set", "width", 9))
        before = self.picture(desk)
        self.assertEqual(desk.would(), desk.result)
        self.assertEqual(self.picture(desk), before)

    # Point 3.

    def test_values_that_are_changed_afterwards(self):
        faces = new_faces()
        rules = list(Sheet.read(BASE))
        desk = Desk(ROOT, Sheet(rules), faces, Settings(width=12, height=30))
        before = self.picture(desk)
        faces["plain"] = Face.even(9)
        faces.pop("bold")
        rules.clear()
        desk.kept().clear()
        desk.recomputed.clear()
        desk.history().append("x")
        self.assertEqual(self.picture(desk), before)
        self.check_edits(desk, ("set", "width", 9))
        edits = [("set", "width", 9), ("set", "width", 8)]
        desk.do(*edits)
        edits.clear()
        desk.history().clear()
        self.assertEqual(len(desk.history()[-1]), 2)
        self.check_state(desk)

    def test_the_arguments_stay(self):
        faces, sheet, settings = new_faces(), Sheet.read(BASE), Settings(width=12)
        before = (sheet.text(), settings.data(), faces["plain"].data(), faces["bold"].data())
        desk = Desk(ROOT, sheet, faces, settings)
        for edit, _ in EDITS:
            try:
                desk.do(edit)
            except Refused:
                pass
        self.assertEqual((sheet.text(), settings.data(), faces["plain"].data(), faces["bold"].data()), before)


class DrawnDeskTest(unittest.TestCase):
    def check(self, desk, plain):
        self.assertEqual(desk.state(), plain.data())
        self.assertEqual(desk.result, plain.result)
        self.assertEqual(desk.kept(), plain.kept)
        self.assertEqual(desk.recomputed, plain.recomputed)
        self.assertEqual((desk.steps, desk.undone), (len(plain.done), len(plain.undone)))
        self.assertEqual(desk.history(), [edits for edits, _ in plain.done])

    def act(self, source, desk, plain, counts):
        """Do one drawn thing on both desks."""
        word = source.choice(["do"] * 6 + ["undo", "redo", "would", "inverse"])
        edits = [random_edit(source, plain.now) for _ in range(source.choice([0, 1, 1, 1, 1, 2, 3]))]
        if word in ("undo", "redo"):
            if plain.done if word == "undo" else plain.undone:
                getattr(desk, word)()
                getattr(plain, word)()
            else:
                self.assertRaises((NothingToUndo, NothingToRedo), getattr(desk, word))
        elif word == "inverse" and edits:
            if len(plain.after(edits[:1])) == 4:
                inverse = desk.inverse(edits[0])
                before = desk.state()
                desk.do(edits[0])
                plain.do(edits[0])
                self.check(desk, plain)
                desk.do(inverse)
                plain.do(inverse)
                self.assertEqual(desk.state(), before)
            else:
                self.assertRaises(type(plain.after(edits[:1])[1]), desk.inverse, edits[0])
        else:
            refused = plain.after(edits) if len(plain.after(edits)) == 2 else None
            counts["refused"] += refused is not None
            if refused is not None:
                with self.assertRaises(Refused) as caught:
                    (desk.would if word == "would" else desk.do)(*edits)
                self.assertEqual(caught.exception.index, refused[0])
                self.assertIs(type(caught.exception.__cause__), type(refused[1]))
            elif word == "would":
                found = desk.would(*edits)
                self.check(desk, plain)
                desk.do(*edits)
                plain.do(*edits)
                self.assertEqual(desk.result, found)
            else:
                desk.do(*edits)
                plain.do(*edits)
        counts[word] += 1

    def test_drawn_rows_of_edits(self):
        source = random.Random(770)
        counts = {"do": 0, "undo": 0, "redo": 0, "would": 0, "inverse": 0, "refused": 0, "pages": 0, "kept": 0}
        for _ in range(25):
            given = random_setting(source)
            desk, plain = Desk(*given), PlainDesk(*given)
            self.check(desk, plain)
            for _ in range(12):
                self.act(source, desk, plain, counts)
                self.check(desk, plain)
                counts["pages"] += desk.result[0] == "pages"
                counts["kept"] += 0 < len(desk.recomputed) < len(desk.kept())
        self.assertGreater(min(counts.values()), 15, counts)

    def test_a_whole_session(self):
        source = random.Random(771)
        counts = {"do": 0, "undo": 0, "redo": 0, "would": 0, "inverse": 0, "refused": 0}
        given = random_setting(random.Random(1))
        desk, plain = Desk(*given), PlainDesk(*given)
        most = 0
        for _ in range(130):
            self.act(source, desk, plain, counts)
            self.check(desk, plain)
            most = max(most, desk.steps)
        self.assertGreater(most, 59, counts)
        self.assertGreater(min(counts.values()), 3, counts)
        again = Desk(*given)
        for step in desk.history():
            again.do(*step)
        self.assertEqual((again.state(), again.result, again.kept()), (desk.state(), desk.result, desk.kept()))
        while desk.steps:
            desk.undo()
        self.assertEqual((desk.state(), desk.result, desk.kept()), (Desk(*given).state(),) + (Desk(*given).result, Desk(*given).kept()))


if __name__ == "__main__":
    unittest.main()
