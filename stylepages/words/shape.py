"""The pieces of resolved runs: boxes and the joints between them."""

from stylepages.words.reading import characters_of, words_of
from stylepages.words.runs import is_letter_of_run

# How many of the first items of a measure say what it is the measure of.
KEY_LENGTHS = {"letter": 3, "pair": 4, "hyphen": 3, "space": 2}


def _table_of(measures):
    """Return the dict from what is measured to the numbers of the measure."""
    return {row[:KEY_LENGTHS[row[0]]]: row[KEY_LENGTHS[row[0]]:] for row in measures}


def _advance(letter, table):
    char, size, face = letter
    return size * table[("letter", face, char)][0]


def _amount(one, other, table):
    """Return by how much two neighbouring letters come nearer."""
    char, size, face = one
    if (size, face) != other[1:]:
        return 0
    return size * table[("pair", face, char, other[0])][0]


def _placed(box, table):
    """Return the width of a box and the tuple of its letters with their offsets."""
    letters = []
    width = 0
    for k, letter in enumerate(box):
        char, size, face = letter
        if k > 0:
            width = width - _amount(box[k - 1], letter, table)
        letters.append((char, width, size, face))
        width = width + _advance(letter, table)
    return width, tuple(letters)


def _hyphen_joint(box, behind, table):
    """Return the joint between two boxes of one word."""
    char, size, face = box[-1]
    advance, amount = table[("hyphen", face, char)]
    join = _amount(box[-1], behind[0], table)
    return ("hyphen", size * (advance - amount), join, ("-", -size * amount, size, face))


def _gap_joint(space, table):
    """Return the joint between two words."""
    _, size, face = space
    width, stretch, shrink = table[("space", face)]
    return ("gap", size * width, size * stretch, size * shrink)


def _joints(words, table):
    joints = []
    for at, (space, boxes) in enumerate(words):
        if at > 0:
            joints.append(_gap_joint(space, table))
        joints.extend([_hyphen_joint(box, behind, table) for box, behind in zip(boxes, boxes[1:])])
    return tuple(joints)


def _marks_of_boxes(resolved, boxes):
    """Return for each box the list of its marks."""
    box_of_letter = [number for number, box in enumerate(boxes) for _ in box]
    marks = [[] for _ in boxes]
    passed = 0
    for run in resolved:
        if run[0] == "mark":
            marks[box_of_letter[max(0, passed - 1)]].append((run[1], run[2]))
        elif run[0] == "shown":
            marks[box_of_letter[passed]].append(("ref", run[1]))
        passed += len([letter for letter in characters_of(run) if is_letter_of_run(letter[0])])
    return marks


def shape(resolved, measures):
    """Return the pieces (boxes, joints) of the resolved runs."""
    words = words_of(resolved)
    if not words:
        return ((), ())
    table = _table_of(measures)
    boxes = [box for _, word in words for box in word]
    rows = []
    for box, marks in zip(boxes, _marks_of_boxes(resolved, boxes)):
        width, letters = _placed(box, table)
        rows.append((width, letters, tuple(marks)))
    return (tuple(rows), _joints(words, table))


def bare(pieces):
    """Return the bare row of pieces: the widths of the boxes, and the joints without letters."""
    boxes, joints = pieces
    widths = tuple([box[0] for box in boxes])
    return (widths, tuple([joint[:3] if joint[0] == "hyphen" else joint for joint in joints]))
