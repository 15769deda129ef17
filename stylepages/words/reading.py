"""Resolved runs, read as words and boxes."""

from stylepages.words.runs import is_letter_of_run


def characters_of(run):
    """Return the triples (char, size, face) of a resolved run; a mark has none."""
    if run[0] == "mark":
        return []
    text, size, face = run[-3:]
    return [(char, size, face) for char in text]


def words_of(resolved):
    """Return the pairs (space, boxes) of the words.

    `boxes` is the list of the boxes of the word, each the list of its letters
    (char, size, face); `space` is the first space between the word before and
    this one, as (char, size, face), and None for the first word.
    """
    words = []
    space = None
    in_word = False
    split = False
    for letter in [sign for run in resolved for sign in characters_of(run)]:
        if letter[0] == " ":
            in_word = False
            space = letter if space is None else space
        elif not is_letter_of_run(letter[0]):
            split = True
        elif not in_word:
            words.append((space if words else None, [[letter]]))
            space, in_word, split = None, True, False
        elif split:
            words[-1][1].append([letter])
            split = False
        else:
            words[-1][1][-1].append(letter)
    return words


def letters_of(boxes):
    """Return the letters of the boxes in one list."""
    return [letter for box in boxes for letter in box]
