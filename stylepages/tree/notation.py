"""The written form of documents and of their items."""

from stylepages.errors import BadDocument
from stylepages.tree.parts import MOST_DEPTH, NAME_LETTERS, is_marks, is_name, is_part, is_text, within_bounds


def write_item(item):
    """Return the written form of a text, a part, a label or a reference."""
    if isinstance(item, str):
        return '"' + item + '"'
    if not is_part(item):
        return item[0] + item[1]
    kind, marks, items = item
    words = [".".join((kind,) + marks)] + [write_item(inner) for inner in items]
    return "(" + " ".join(words) + ")"


def write_document(root):
    """Return the written form of a document."""
    return write_item(root)


def _name_at(text, at):
    """Return the name that begins at this place, and the place behind it."""
    end = at
    while end < len(text) and text[end] in NAME_LETTERS:
        end += 1
    word = text[at:end]
    if not is_name(word):
        raise BadDocument()
    return word, end


def _text_at(text, at):
    """Return the text whose first quote stands at this place, and the place behind it."""
    end = text.find('"', at + 1)
    if end < 0 or not is_text(text[at + 1:end]):
        raise BadDocument()
    return text[at + 1:end], end + 1


def _part_at(text, at, depth):
    """Return the part that begins at this place, and the place behind it."""
    # No document is deeper, and a longer row of parentheses must not lead to deep calls.
    if depth > MOST_DEPTH:
        raise BadDocument()
    kind, at = _name_at(text, at + 1)
    marks = []
    while text[at:at + 1] == ".":
        mark, at = _name_at(text, at + 1)
        marks.append(mark)
    items = []
    while text[at:at + 1] == " ":
        item, at = _item_at(text, at + 1, depth + 1)
        items.append(item)
    if text[at:at + 1] != ")" or not is_marks(marks):
        raise BadDocument()
    return (kind, tuple(marks), tuple(items)), at + 1


def _item_at(text, at, depth):
    """Return the item that begins at this place, and the place behind it."""
    sign = text[at:at + 1]
    if sign == "(":
        return _part_at(text, at, depth)
    if sign == '"':
        return _text_at(text, at)
    if sign not in ("#", "@"):
        raise BadDocument()
    name, at = _name_at(text, at + 1)
    return (sign, name), at


def read_item(text):
    """Return the text, label, reference or document whose written form the string is."""
    item, end = _item_at(text, 0, 1)
    if end != len(text):
        raise BadDocument()
    if is_part(item) and not within_bounds(item):
        raise BadDocument()
    return item


def read_document(text):
    """Return the document whose written form the string is."""
    item = read_item(text)
    if not is_part(item):
        raise BadDocument()
    return item
