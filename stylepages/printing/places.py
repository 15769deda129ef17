"""Where the letters of lines stand."""

from stylepages.lines.prices import box_places, ends_at_hyphen
from stylepages.words.shape import bare


def _letter_at(left, letter):
    char, offset, size, face = letter
    return (left + offset, char, size, face)


def print_line(pieces, start, end, measure, *, left=0, top=0):
    """Return the set line (top, letters) of a possible line."""
    boxes, joints = pieces
    row = bare(pieces)
    places = [left + place for place in box_places(row, start, end, measure)]
    letters = []
    for place, box in zip(places, boxes[start:end]):
        letters.extend([_letter_at(place, letter) for letter in box[1]])
    if ends_at_hyphen(row, end):
        right = places[-1] + boxes[end - 1][0]
        letters.append(_letter_at(right, joints[end - 1][3]))
    return (top, tuple(letters))


def print_block(pieces, ends, measure, lead, *, top=0):
    """Return the tuple of the set lines of a breaking, one below the other."""
    lines = []
    for at, (start, end) in enumerate(zip((0,) + ends, ends)):
        lines.append(print_line(pieces, start, end, measure, top=top + at * lead))
    return tuple(lines)
