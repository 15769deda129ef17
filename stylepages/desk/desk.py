"""The desk: it keeps a document with all that it is set with, and the cells of its setting."""

from stylepages.desk.actions import inverse_in_state, state_after
from stylepages.errors import NothingToRedo, NothingToUndo, Refused, StyleError
from stylepages.whole.cells import Cells
from stylepages.whole.setting import set_with_cells


def _after_all(state, edits):
    """Return the state after the edits."""
    for at, edit in enumerate(edits):
        try:
            state = state_after(state, edit)
        except StyleError as e:
            raise Refused(at) from e
    return state


def _result_of(state, cells):
    root, sheet, plain, bold, settings = state
    return set_with_cells(root, sheet, {"plain": plain, "bold": bold}, settings, cells)[0]


class Desk:
    """A document, its sheet, its faces and its settings, which can be edited in steps."""

    def __init__(self, root, sheet, faces, settings):
        # Each step is (edits, state before, state behind), the last one that was done or undone at the end.
        self._done = []
        self._taken_back = []
        self._kept = {}
        self._move_to((root, sheet, faces["plain"], faces["bold"], settings))

    def _move_to(self, state):
        """Set the state with the cells that are kept, and keep those that it needs."""
        cells = Cells(self._kept, False)
        self._result = _result_of(state, cells)
        self._state = state
        self._kept = cells.needed()
        self._recomputed = cells.fresh()

    def do(self, *edits):
        """Do the edits, one after the other, as one step."""
        if not edits:
            return
        before = self._state
        self._move_to(_after_all(before, edits))
        self._done.append((edits, before, self._state))
        self._taken_back = []

    def undo(self):
        """Go back to the state before the last step."""
        if not self._done:
            raise NothingToUndo()
        step = self._done[-1]
        self._move_to(step[1])
        self._done.pop()
        self._taken_back.append(step)

    def redo(self):
        """Do the step that was undone last once more."""
        if not self._taken_back:
            raise NothingToRedo()
        step = self._taken_back[-1]
        self._move_to(step[2])
        self._taken_back.pop()
        self._done.append(step)

    def would(self, *edits):
        """Return the result that the desk would have behind the edits."""
        if not edits:
            return self._result
        return _result_of(_after_all(self._state, edits), Cells(self._kept, False))

    def inverse(self, edit):
        """Return the inverse of an edit in the present state."""
        return inverse_in_state(self._state, edit)

    def state(self):
        """Return (root, rules, plain, bold, settings), all as plain data."""
        root, sheet, plain, bold, settings = self._state
        return (root, tuple(sheet), plain.data(), bold.data(), settings.data())

    def kept(self):
        """Return the list of the kept cells, in the order in which the setting needs them."""
        return list(self._kept)

    def history(self):
        """Return the list of the steps that can be undone, each as the tuple of its edits."""
        return [step[0] for step in self._done]

    @property
    def result(self):
        """The result of setting the state."""
        return self._result

    @property
    def recomputed(self):
        """The list of the cells that the last do, undo or redo worked out."""
        return list(self._recomputed)

    @property
    def steps(self):
        """The number of steps that can be undone."""
        return len(self._done)

    @property
    def undone(self):
        """The number of steps that can be redone."""
        return len(self._taken_back)
