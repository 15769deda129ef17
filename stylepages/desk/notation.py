"""The written form of desk edits."""

from stylepages.errors import BadDocument, BadEdit, BadRule
from stylepages.faces.letters import is_letter, is_letter_character, is_pair
from stylepages.numerals import read_numeral, read_signed
from stylepages.sheets.rules import read_rule, write_rule
from stylepages.tree.notation import read_item, write_item
from stylepages.tree.parts import is_marks, is_name

# What stands behind the word of each edit; only the last of these may contain spaces.
FORMS = {
    "put": ("path", "item"),
    "take": ("path",),
    "text": ("path", "text"),
    "kind": ("path", "kind"),
    "marks": ("path", "marks"),
    "wrap": ("path", "number", "kind", "marks"),
    "open": ("path",),
    "rule": ("number", "rule"),
    "unrule": ("number",),
    "letter": ("face", "char", "letter"),
    "kern": ("face", "pair", "amount"),
    "set": ("setting", "worth"),
}

LONGEST_PATH = 8
LARGEST_KERN = 9


def _write_path(path):
    if not path:
        return "/"
    return "/".join([str(k) for k in path])


def _write_marks(marks):
    if not marks:
        return "-"
    return ".".join(marks)


def _write_outline(outline):
    x, y, strokes = outline
    words = [f"{x} {y}"] + [f"{word} {dx} {dy}" for word, dx, dy in strokes]
    return "(" + " ".join(words) + ")"


def _write_letter(letter):
    if letter is None:
        return "none"
    advance, outlines = letter
    return " ".join([str(advance)] + [_write_outline(outline) for outline in outlines])


def _write_amount(amount):
    return "none" if amount is None else str(amount)


def _write_worth(worth):
    return write_item(worth) if isinstance(worth, str) else str(worth)


# The tables below hold functions of this file alone, so imported ones are called in one of these.
def _write_word(word):
    return str(word)


def _write_item(item):
    return write_item(item)


def _write_rule(rule):
    return write_rule(rule)


WRITERS = {
    "path": _write_path,
    "item": _write_item,
    "text": _write_item,
    "kind": _write_word,
    "marks": _write_marks,
    "number": _write_word,
    "rule": _write_rule,
    "face": _write_word,
    "char": _write_word,
    "letter": _write_letter,
    "pair": _write_word,
    "amount": _write_amount,
    "setting": _write_word,
    "worth": _write_worth,
}


def write_edit(edit):
    """Return the written form of a desk edit."""
    words = [edit[0]]
    for sort, item in zip(FORMS[edit[0]], edit[1:]):
        writer = WRITERS[sort]
        words.append(writer(item))
    return " ".join(words)


def _read_number(word):
    number = read_numeral(word)
    if number is None:
        raise BadEdit(0)
    return number


def _read_signed(word):
    number = read_signed(word)
    if number is None:
        raise BadEdit(0)
    return number


def _read_path(word):
    if word == "/":
        return ()
    path = tuple([_read_number(index) for index in word.split("/")])
    if len(path) > LONGEST_PATH:
        raise BadEdit(0)
    return path


def _read_item(word):
    try:
        return read_item(word)
    except BadDocument:
        raise BadEdit(0) from None


def _read_text(word):
    item = _read_item(word)
    if not isinstance(item, str):
        raise BadEdit(0)
    return item


def _read_kind(word):
    if not is_name(word):
        raise BadEdit(0)
    return word


def _read_marks(word):
    if word == "-":
        return ()
    marks = tuple(word.split("."))
    if not is_marks(marks):
        raise BadEdit(0)
    return marks


def _read_rule(word):
    try:
        return read_rule(word)
    except BadRule:
        raise BadEdit(0) from None


def _read_face(word):
    if word not in ("plain", "bold"):
        raise BadEdit(0)
    return word


def _read_char(word):
    if not is_letter_character(word):
        raise BadEdit(0)
    return word


def _read_outline(text):
    """Return the outline that is written behind its first parenthesis."""
    words = text.removesuffix(")").split(" ")
    if not text.endswith(")") or (len(words) - 2) % 3 != 0:
        raise BadEdit(0)
    strokes = []
    for k in range(2, len(words), 3):
        strokes.append((words[k], _read_signed(words[k + 1]), _read_signed(words[k + 2])))
    return (_read_signed(words[0]), _read_signed(words[1]), tuple(strokes))


def _read_letter(text):
    if text == "none":
        return None
    advance, *outlines = text.split(" (")
    letter = (_read_number(advance), tuple([_read_outline(outline) for outline in outlines]))
    if not is_letter(letter):
        raise BadEdit(0)
    return letter


def _read_pair(word):
    if not is_pair(word):
        raise BadEdit(0)
    return word


def _read_amount(word):
    if word == "none":
        return None
    amount = _read_number(word)
    if amount > LARGEST_KERN:
        raise BadEdit(0)
    return amount


def _read_setting(word):
    if not is_name(word) or word == "self":
        raise BadEdit(0)
    return word


def _read_worth(word):
    return _read_text(word) if word.startswith('"') else _read_signed(word)


READERS = {
    "path": _read_path,
    "item": _read_item,
    "text": _read_text,
    "kind": _read_kind,
    "marks": _read_marks,
    "number": _read_number,
    "rule": _read_rule,
    "face": _read_face,
    "char": _read_char,
    "letter": _read_letter,
    "pair": _read_pair,
    "amount": _read_amount,
    "setting": _read_setting,
    "worth": _read_worth,
}


def read_edit(line):
    """Return the desk edit whose written form the line is."""
    word, _, rest = line.partition(" ")
    if word not in FORMS:
        raise BadEdit(0)
    sorts = FORMS[word]
    words = rest.split(" ", len(sorts) - 1)
    if len(words) != len(sorts):
        raise BadEdit(0)
    items = []
    for sort, written in zip(sorts, words):
        reader = READERS[sort]
        items.append(reader(written))
    return (word,) + tuple(items)
