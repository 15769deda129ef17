"""The edits of a document, their inverses and their independence."""

from stylepages.errors import BadPath, TooLarge
from stylepages.tree.parts import is_part, item_at, part_at, within_bounds

ROW_WORDS = ("put", "take", "wrap", "open")


def _with_item(root, path, item):
    """Return the root with another item at the path, which leads to an item."""
    for depth in range(len(path) - 1, -1, -1):
        kind, marks, items = item_at(root, path[:depth])
        k = path[depth]
        item = (kind, marks, items[:k] + (item,) + items[k + 1:])
    return item


def _owner(root, path):
    """Return the part among whose items the path ends."""
    if not path:
        raise BadPath()
    return part_at(root, path[:-1])


def _spliced(root, path, count, fresh):
    """Return the root with the tuple `fresh` in the place of `count` items from the path on."""
    kind, marks, items = _owner(root, path)
    k = path[-1]
    if not 0 <= k <= k + count <= len(items):
        raise BadPath()
    return _with_item(root, path[:-1], (kind, marks, items[:k] + fresh + items[k + count:]))


def _put(root, edit):
    _, path, item = edit
    if is_part(item) and not within_bounds(item):
        raise BadPath()
    return _spliced(root, path, 0, (item,))


def _take(root, edit):
    return _spliced(root, edit[1], 1, ())


def _text(root, edit):
    _, path, text = edit
    if not isinstance(item_at(root, path), str):
        raise BadPath()
    return _with_item(root, path, text)


def _kind(root, edit):
    _, path, kind = edit
    _, marks, items = part_at(root, path)
    return _with_item(root, path, (kind, marks, items))


def _marks(root, edit):
    _, path, marks = edit
    kind, _, items = part_at(root, path)
    return _with_item(root, path, (kind, marks, items))


def _wrap(root, edit):
    _, path, count, kind, marks = edit
    _, _, items = _owner(root, path)
    k = path[-1]
    return _spliced(root, path, count, ((kind, marks, items[k:k + count]),))


def _unwrap(root, edit):
    _, path = edit
    return _spliced(root, path, 1, part_at(root, path)[2])


ACTIONS = {
    "put": _put,
    "take": _take,
    "text": _text,
    "kind": _kind,
    "marks": _marks,
    "wrap": _wrap,
    "open": _unwrap,
}


def apply_edit(root, edit):
    """Return the document after the edit."""
    action = ACTIONS[edit[0]]
    result = action(root, edit)
    if not within_bounds(result):
        raise TooLarge()
    return result


def inverse_edit(root, edit):
    """Return the edit that takes the document after the edit back to this one."""
    # An edit that cannot be done has no inverse, but raises its own error here.
    apply_edit(root, edit)
    word, path = edit[0], edit[1]
    if word == "put":
        return ("take", path)
    if word == "wrap":
        return ("open", path)
    item = item_at(root, path)
    if word == "take":
        return ("put", path, item)
    if word == "text":
        return ("text", path, item)
    kind, marks, items = item
    if word == "kind":
        return ("kind", path, kind)
    if word == "marks":
        return ("marks", path, marks)
    return ("wrap", path, len(items), kind, marks)


def _begins_with(path, start):
    return path[:len(start)] == start


def _row_leaves_spot(row, path):
    return len(path) <= len(row) or not _begins_with(path, row)


def independent(first, second):
    """Tell whether two edits of a document are independent by their form."""
    first_path, second_path = first[1], second[1]
    if first[0] in ROW_WORDS and second[0] in ROW_WORDS:
        row, other = first_path[:-1], second_path[:-1]
        return not _begins_with(row, other) and not _begins_with(other, row)
    if first[0] in ROW_WORDS:
        return _row_leaves_spot(first_path[:-1], second_path)
    if second[0] in ROW_WORDS:
        return _row_leaves_spot(second_path[:-1], first_path)
    return (first_path, first[0]) != (second_path, second[0])
