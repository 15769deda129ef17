"""Resolved runs, and what they need of the faces."""

from stylepages.words.reading import letters_of, words_of


def resolve(runs, shown):
    """Return the runs in which each reference has the shown text of its number."""
    resolved = []
    for run in runs:
        if run[0] == "ref":
            _, number, size, face = run
            resolved.append(("shown", number, shown[number], size, face))
        else:
            resolved.append(run)
    return tuple(resolved)


def plain_words(resolved):
    """Return the list of the words, each as the string of its letters."""
    return ["".join([letter[0] for letter in letters_of(boxes)]) for _, boxes in words_of(resolved)]


def _letter_rows(boxes, faces):
    return [("letter", face, char, faces[face].advance(char)) for char, _, face in letters_of(boxes)]


def _pair_rows(boxes, faces):
    letters = letters_of(boxes)
    rows = []
    for one, other in zip(letters, letters[1:]):
        if one[1:] == other[1:]:
            face = one[2]
            rows.append(("pair", face, one[0], other[0], faces[face].nearer(one[0], other[0])))
    return rows


def _hyphen_rows(boxes, faces):
    rows = []
    for box in boxes[:-1]:
        char, _, face = box[-1]
        rows.append(("hyphen", face, char, faces[face].advance("-"), faces[face].nearer(char, "-")))
    return rows


def measures_of(resolved, faces):
    """Return the tuple of all that the boxes of the resolved runs need of the faces."""
    words = words_of(resolved)
    rows = []
    # The letters of all words come first, so that the first one that is lacking is told.
    for _, boxes in words:
        rows.extend(_letter_rows(boxes, faces))
    for _, boxes in words:
        rows.extend(_pair_rows(boxes, faces))
        rows.extend(_hyphen_rows(boxes, faces))
    for space, _ in words[1:]:
        face = space[2]
        rows.append(("space", face) + faces[face].space)
    return tuple(sorted(set(rows)))
