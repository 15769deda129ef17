"""The parts of a document: names, texts, paths, lineages and bounds."""

from stylepages.errors import BadPath

NAME_LETTERS = "abcdefghijklmnopqrstuvwxyz"
LONGEST_NAME = 8

TEXT_CHARACTERS = " abcdefghijklmnopqrstuvwxyzABCDEFGHIJKLMNOPQRSTUVWXYZ0123456789.,;:!?'()|"
LONGEST_TEXT = 60

MOST_MARKS = 3

MOST_ITEMS_OF_A_PART = 12
MOST_ITEMS = 60
MOST_TEXT = 400
MOST_DEPTH = 6
MOST_REFERENCES = 3


def is_name(word):
    """Tell whether the string is a name."""
    return 1 <= len(word) <= LONGEST_NAME and all([char in NAME_LETTERS for char in word])


def is_text(word):
    """Tell whether the string is a text."""
    return 1 <= len(word) <= LONGEST_TEXT and all([char in TEXT_CHARACTERS for char in word])


def is_marks(words):
    """Tell whether the tuple of strings can be the marks of a part or of a step."""
    if len(words) > MOST_MARKS or not all([is_name(word) for word in words]):
        return False
    return list(words) == sorted(set(words))


def is_part(item):
    """Tell whether an item of a document is a part."""
    return isinstance(item, tuple) and len(item) == 3


def walk(root):
    """Yield (path, item) for the root and every other item, in document order."""
    waiting = [((), root)]
    while waiting:
        path, item = waiting.pop()
        yield (path, item)
        if is_part(item):
            items = item[2]
            # The first item is put on top, so that all in it comes before its neighbours.
            for k in range(len(items) - 1, -1, -1):
                waiting.append((path + (k,), items[k]))


def item_at(root, path):
    """Return the item to which the path leads."""
    item = root
    for k in path:
        if not is_part(item) or not 0 <= k < len(item[2]):
            raise BadPath()
        item = item[2][k]
    return item


def part_at(root, path):
    """Return the part to which the path leads."""
    item = item_at(root, path)
    if not is_part(item):
        raise BadPath()
    return item


def lineage(root, path):
    """Return the lineage of the part to which the path leads."""
    pairs = []
    for depth in range(len(path) + 1):
        kind, marks, _ = part_at(root, path[:depth])
        pairs.append((kind, marks))
    return tuple(pairs)


def within_bounds(root):
    """Tell whether a part keeps the bounds of a document."""
    rows = list(walk(root))
    parts = [(path, item) for path, item in rows if is_part(item)]
    texts = [item for path, item in rows if isinstance(item, str)]
    references = [item for path, item in rows if not isinstance(item, str) and item[0] == "@"]
    return (
        len(rows) <= MOST_ITEMS
        and all([len(part[2]) <= MOST_ITEMS_OF_A_PART for path, part in parts])
        and sum([len(text) for text in texts]) <= MOST_TEXT
        and all([len(path) < MOST_DEPTH for path, part in parts])
        and len(references) <= MOST_REFERENCES
    )
