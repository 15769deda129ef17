"""Scripts: written edits, undos and redos, line by line."""

from stylepages.desk.notation import read_edit
from stylepages.errors import BadEdit, NothingToRedo, NothingToUndo, Refused

UNDO = "undo"
REDO = "redo"


def _read_line(line, number):
    """Return the edit that is written in a line, or the word of a line that is no edit."""
    if line in (UNDO, REDO):
        return line
    try:
        return read_edit(line)
    except BadEdit:
        raise BadEdit(number) from None


def _outcome(desk, act):
    """Do what a line says, and return its outcome."""
    try:
        if act == UNDO:
            desk.undo()
        elif act == REDO:
            desk.redo()
        else:
            desk.do(act)
    except (NothingToUndo, NothingToRedo):
        return "nothing"
    except Refused:
        return "refused"
    return "done"


def run_script(desk, script):
    """Run the script on the desk, and return the list of the outcomes of its lines."""
    lines = script.split("\n") if script else []
    acts = [_read_line(line, number) for number, line in enumerate(lines)]
    return [_outcome(desk, act) for act in acts]
