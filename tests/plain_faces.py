"""Sample letters, and a plain reading of points 34 and 35."""

from stylepages.faces.ink import ink_of

LETTER_SIGNS = "abcdefghijklmnopqrstuvwxyz" + "ABCDEFGHIJKLMNOPQRSTUVWXYZ" + "0123456789" + ".,;:!?'()-"
FIGURES = "0123456789"


def box(x, y, width, height):
    return (x, y, (("line", width, 0), ("line", 0, height), ("line", -width, 0), ("line", 0, -height)))


def base_letters():
    """Return the letters that every face must have."""
    letters = {figure: (5, (box(0, 0, 5, 6),)) for figure in FIGURES}
    letters["-"] = (4, (box(1, 3, 2, 1),))
    return letters


def slanted_letters():
    """Return letters whose sides lean, so that pairs of them come nearer in other rows."""
    letters = base_letters()
    letters["V"] = (9, ((0, 8, (("line", 4, -8), ("line", 1, 0), ("line", 4, 8), ("line", -9, 0))),))
    letters["A"] = (9, ((0, 0, (("line", 9, 0), ("line", -4, 8), ("line", -1, 0), ("line", -4, -8))),))
    letters["i"] = (3, (box(1, 0, 1, 5), box(1, 6, 1, 1)))
    letters["."] = (3, (box(1, 0, 1, 1),))
    letters["'"] = (3, (box(1, 6, 1, 2),))
    letters["x"] = (6, ())
    letters["o"] = (6, (box(0, 0, 6, 5), box(1, 1, 4, 3)))
    letters["l"] = (1, (box(0, 0, 1, 8),))
    return letters


def gaps(letters, a, b):
    """Return (gap, y) of all rows in which both letters have ink."""
    found = []
    left, right = ink_of(letters[a][1]).cells(), ink_of(letters[b][1]).cells()
    for row in sorted({y for _, y in left} & {y for _, y in right}):
        right_end = max(x for x, y in left if y == row) + 1
        left_end = min(x for x, y in right if y == row)
        found.append((letters[a][0] - right_end + left_end, row))
    return found


def plain_amount(letters, kerns, want, most, a, b):
    """Point 34, rule by rule."""
    if a in FIGURES or b in FIGURES:
        return 0
    if a + b in kerns:
        amount = kerns[a + b]
    elif not gaps(letters, a, b):
        amount = 0
    else:
        amount = min(gaps(letters, a, b))[0] - want
        if amount < 0:
            amount = 0
        elif amount > most:
            amount = most
    return min(amount, letters[a][0] - 1, letters[b][0] - 1)
