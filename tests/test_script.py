"""Points 85 and 86: scripts."""

import random
import unittest

from stylepages.desk.desk import Desk
from stylepages.desk.notation import write_edit
from stylepages.desk.script import run_script
from stylepages.errors import BadEdit, Refused
from tests.plain_desk import random_edit
from tests.plain_setting import random_setting
from tests.test_desk import EDITS, REFUSED, new_desk


class ScriptTest(unittest.TestCase):
    def run_on_new(self, *lines):
        """Run a script on a new desk, and return the outcomes and the desk."""
        desk = new_desk()
        return run_script(desk, "\n".join(lines)), desk

    def bad(self, number, *lines):
        desk = new_desk()
        desk.do(("set", "width", 9))
        before = (desk.state(), desk.result, desk.kept(), desk.recomputed, desk.history())
        with self.assertRaises(BadEdit) as caught:
            run_script(desk, "\n".join(lines))
        self.assertEqual(caught.exception.line, number)
        self.assertEqual((desk.state(), desk.result, desk.kept(), desk.recomputed, desk.history()), before)

    def test_the_empty_script(self):
        found, desk = self.run_on_new()
        self.assertEqual(found, [])
        self.assertIsInstance(found, list)
        self.assertEqual((desk.steps, desk.state()), (0, new_desk().state()))

    def test_edits(self):
        found, desk = self.run_on_new("set width 9", 'text 0/0 "xy"', "take 1/2")
        self.assertEqual(found, ["done", "done", "done"])
        self.assertIsInstance(found, list)
        self.assertEqual(desk.history(), [(("set", "width", 9),), (("text", (0, 0), "xy"),), (("take", (1, 2)),)])
        self.assertEqual(desk.steps, 3)

    def test_the_examples(self):
        found, desk = self.run_on_new(
            'put 0/1 (em.red "you")', "kind / doc", "wrap 0/0 2 em -", "rule 0 p.big { size 3 }",
            "letter plain x 5 (0 0 line 4 0 flat 4 4 line -8 0 line 0 -4)", "kern bold To none", 'set near "here"',
        )
        self.assertEqual(found, ["done"] * 7)
        self.assertEqual(desk.steps, 7)

    def test_undo_and_redo(self):
        found, desk = self.run_on_new("set width 9", "undo", "redo", "undo", "set width 8", "set width 7", "undo")
        self.assertEqual(found, ["done"] * 7)
        self.assertEqual((desk.steps, desk.undone), (1, 1))
        self.assertEqual(dict(desk.state()[4])["width"], 8)

    def test_nothing_to_undo_or_redo(self):
        found, desk = self.run_on_new("undo", "redo", "set width 9", "redo", "undo", "undo", "redo", "redo")
        self.assertEqual(found, ["nothing", "nothing", "done", "nothing", "done", "nothing", "done", "nothing"])
        self.assertEqual((desk.steps, desk.undone), (1, 0))

    def test_refused_lines(self):
        lines = ["set width 9"] + [write_edit(edit) for edit, _ in REFUSED if -1 not in edit] + ["set width 8"]
        found, desk = self.run_on_new(*lines)
        self.assertEqual(found, ["done"] + ["refused"] * (len(lines) - 2) + ["done"])
        self.assertEqual(desk.history(), [(("set", "width", 9),), (("set", "width", 8),)])
        # A refused line leaves what can be redone.
        found, desk = self.run_on_new("set width 9", "undo", "set width 0", "redo")
        self.assertEqual(found, ["done", "done", "refused", "done"])

    def test_a_later_line_sees_the_earlier_ones(self):
        found, desk = self.run_on_new('put 2/0 "x"', "put 2 (p)", 'put 2/0 "x"', "undo", "take 2/0", "take 2")
        self.assertEqual(found, ["refused", "done", "done", "done", "refused", "done"])

    def test_bad_lines(self):
        self.bad(0, "x")
        self.bad(1, "set width 8", "")
        self.bad(0, "", "set width 8")
        self.bad(0, "", "")
        self.bad(2, "set width 8", "undo", "Undo", "x")
        self.bad(1, "undo", "undo ", "redo")
        self.bad(1, "undo", " redo")
        self.bad(0, "undo redo")
        self.bad(3, "set width 8", "undo", "set nothing 1", "set width 08")
        self.bad(1, "take 7/7", "take 7/")
        self.bad(1, "undo", "")

    def test_every_line_is_read_before_anything_is_done(self):
        for at in range(4):
            lines = ["set width 8", "undo", "redo", "take 0"]
            lines[at] = "set width"
            self.bad(at, *lines)

    def test_a_history_as_a_script(self):
        desk = new_desk()
        for edit, inverse in EDITS:
            desk.do(edit)
            desk.do(inverse)
            if edit[0] == "set":
                desk.do(edit)
        script = "\n".join(write_edit(edit) for step in desk.history() for edit in step)
        again = new_desk()
        self.assertEqual(run_script(again, script), ["done"] * desk.steps)
        self.assertEqual((again.state(), again.result, again.kept()), (desk.state(), desk.result, desk.kept()))
        self.assertEqual(again.history(), desk.history())

    def test_drawn_scripts(self):
        source = random.Random(86)
        counts = {"done": 0, "refused": 0, "nothing": 0}
        for _ in range(12):
            given = random_setting(source)
            one, other = Desk(*given), Desk(*given)
            lines, expected = [], []
            for _ in range(source.randint(1, 30)):
                root, rules, _, _, _ = one.state()
                edit = random_edit(source, (root, rules, None, None))
                word = source.choice(["edit", "edit", "edit", "undo", "redo"])
                if word == "edit" and edit != ("unrule", -1):
                    lines.append(write_edit(edit))
                    try:
                        one.do(edit)
                        expected.append("done")
                    except Refused:
                        expected.append("refused")
                else:
                    word = "redo" if word == "redo" else "undo"
                    lines.append(word)
                    fits = one.undone if word == "redo" else one.steps
                    expected.append("done" if fits else "nothing")
                    if fits:
                        getattr(one, word)()
            self.assertEqual(run_script(other, "\n".join(lines)), expected)
            self.assertEqual((other.state(), other.result, other.kept()), (one.state(), one.result, one.kept()))
            self.assertEqual((other.history(), other.recomputed), (one.history(), one.recomputed))
            for outcome in expected:
                counts[outcome] += 1
        self.assertGreater(min(counts.values()), 5, counts)

    def test_a_long_script(self):
        lines = [f"set width {9 + k}" for k in range(58)] + ["undo", "redo"]
        found, desk = self.run_on_new(*lines)
        self.assertEqual(found, ["done"] * 60)
        self.assertEqual(desk.steps, 58)


if __name__ == "__main__":
    unittest.main()
