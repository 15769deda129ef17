"""Letters: their characters, and what may stand in them."""

from stylepages.faces.strokes import is_outline

LETTER_CHARACTERS = "abcdefghijklmnopqrstuvwxyzABCDEFGHIJKLMNOPQRSTUVWXYZ0123456789.,;:!?'()-"

WIDEST_ADVANCE = 30
MOST_OUTLINES = 3


def is_letter_character(word):
    """Tell whether the string is one letter character."""
    return len(word) == 1 and word in LETTER_CHARACTERS


def is_pair(word):
    """Tell whether the string is a pair of letter characters."""
    return len(word) == 2 and all([char in LETTER_CHARACTERS for char in word])


def is_letter(letter):
    """Tell whether an advance and a tuple of outlines can be a letter; the outlines may be open."""
    advance, outlines = letter
    if not 1 <= advance <= WIDEST_ADVANCE or len(outlines) > MOST_OUTLINES:
        return False
    return all([is_outline(outline) for outline in outlines])
