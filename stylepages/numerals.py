"""Numbers in figures, as the written forms of rules and edits have them."""

FIGURES = "0123456789"

# No written form has a number with more figures.
MOST_FIGURES = 6


def read_numeral(word):
    """Return the number from 0 to 999999 that the word writes, or None."""
    if not 1 <= len(word) <= MOST_FIGURES or not all([char in FIGURES for char in word]):
        return None
    if word[0] == "0" and word != "0":
        return None
    return int(word)


def read_signed(word):
    """Return the number from -999999 to 999999 that the word writes, or None."""
    if not word.startswith("-"):
        return read_numeral(word)
    number = read_numeral(word[1:])
    if number is None or number == 0:
        return None
    return -number
