"""What the edits of a desk do to its state, and their inverses.

A state is (root, sheet, plain, bold, settings), with the two faces.
"""

from stylepages.desk.edits import GROUPS
from stylepages.tree.edits import apply_edit, inverse_edit


def _with_face(state, name, face):
    """Return the state with another face of that name."""
    root, sheet, plain, bold, settings = state
    if name == "plain":
        return (root, sheet, face, bold, settings)
    return (root, sheet, plain, face, settings)


def _face_of(state, name):
    return state[2] if name == "plain" else state[3]


def _edited_sheet(sheet, edit):
    if edit[0] == "rule":
        return sheet.with_rule(edit[1], edit[2])
    return sheet.without_rule(edit[1])


def _edited_face(face, edit):
    word, _, told, worth = edit
    if word == "letter":
        return face.changed(told, worth)
    return face.with_kern(told, worth)


def _edited_settings(settings, edit):
    _, name, value = edit
    given = {name: value}
    return settings.changed(**given)


def state_after(state, edit):
    """Return the state after the edit."""
    root, sheet, plain, bold, settings = state
    group = GROUPS[edit[0]]
    if group == "document":
        return (apply_edit(root, edit), sheet, plain, bold, settings)
    if group == "sheet":
        return (root, _edited_sheet(sheet, edit), plain, bold, settings)
    if group == "faces":
        return _with_face(state, edit[1], _edited_face(_face_of(state, edit[1]), edit))
    return (root, sheet, plain, bold, _edited_settings(settings, edit))


def inverse_in_state(state, edit):
    """Return the edit that takes the state after the edit back to this one."""
    # An edit that cannot be done has no inverse, but raises its own error here.
    state_after(state, edit)
    word = edit[0]
    if GROUPS[word] == "document":
        return inverse_edit(state[0], edit)
    if word == "rule":
        return ("unrule", edit[1])
    if word == "unrule":
        return ("rule", edit[1], state[1][edit[1]])
    if word == "set":
        return ("set", edit[1], state[4].value(edit[1]))
    face = _face_of(state, edit[1])
    old = face.letter_or_none(edit[2]) if word == "letter" else face.kern_or_none(edit[2])
    return edit[:3] + (old,)
