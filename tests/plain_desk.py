"""A plain desk, which sets every state from scratch, and drawn edits."""

from stylepages.errors import StyleError
from stylepages.sheets.sheet import Sheet
from stylepages.tree.edits import apply_edit
from stylepages.tree.parts import walk
from tests.plain_setting import RULES, plain_set, random_words


def plain_edit(state, edit):
    """Return the state after the edit; a state is (root, rules, faces, settings)."""
    root, rules, faces, settings = state
    if edit[0] == "rule":
        rules = tuple(Sheet(rules).with_rule(edit[1], edit[2]))
    elif edit[0] == "unrule":
        rules = tuple(Sheet(rules).without_rule(edit[1]))
    elif edit[0] == "letter":
        faces = {**faces, edit[1]: faces[edit[1]].changed(edit[2], edit[3])}
    elif edit[0] == "kern":
        faces = {**faces, edit[1]: faces[edit[1]].with_kern(edit[2], edit[3])}
    elif edit[0] == "set":
        settings = settings.changed(**{edit[1]: edit[2]})
    else:
        root = apply_edit(root, edit)
    return root, rules, faces, settings


class PlainDesk:
    """Points 77 to 84, with every state set from scratch by the plain reading."""

    def __init__(self, root, sheet, faces, settings):
        self.now = (root, tuple(sheet), dict(faces), settings)
        self.done, self.undone = [], []
        self.result, _, self.kept = plain_set(*self.now)
        self.recomputed = self.kept

    def go(self, state):
        self.now = state
        self.result, _, cells = plain_set(*state)
        self.recomputed = [cell for cell in cells if cell not in self.kept]
        self.kept = cells

    def after(self, edits):
        """Return the state behind the edits, or the number and the error of the one that is refused."""
        state = self.now
        for at, edit in enumerate(edits):
            try:
                state = plain_edit(state, edit)
            except StyleError as error:
                return at, error
        return state

    def do(self, *edits):
        """Return None, or the number and the error of the edit that is refused."""
        state = self.after(edits)
        if len(state) == 2:
            return state
        if edits:
            self.done.append((edits, self.now))
            self.undone = []
            self.go(state)
        return None

    def undo(self):
        edits, before = self.done.pop()
        self.undone.append((edits, self.now))
        self.go(before)

    def redo(self):
        edits, behind = self.undone.pop()
        self.done.append((edits, self.now))
        self.go(behind)

    def data(self):
        root, rules, faces, settings = self.now
        return (root, rules, faces["plain"].data(), faces["bold"].data(), settings.data())


# Drawn edits.

BOX = (0, 0, (("line", 4, 0), ("line", 0, 3), ("line", -4, 0), ("line", 0, -3)))
OPEN = (0, 0, (("line", 4, 0), ("line", 0, 3)))


def random_document_edit(source, root):
    rows = list(walk(root))
    path, item = source.choice(rows)
    part = source.choice([path for path, item in rows if isinstance(item, tuple) and len(item) == 3])
    text = source.choice([path for path, item in rows if isinstance(item, str)] or [(0,)])
    words = random_words(source, "VAixol", source.randint(1, 4))
    word = source.choice(["put", "put", "put", "take", "text", "text", "text", "kind", "marks", "wrap", "open"])
    if word == "put":
        item = source.choice([words, words, ("#", "u"), ("@", "u"), ("p", (), (words,)), ("n", (), ("xo",)), ("f", (), ("Vi",))])
        return ("put", part + (source.randint(0, 4),), item)
    if word == "text":
        return ("text", source.choice([text, text, text, path]), words)
    if word == "kind":
        return ("kind", source.choice([part, part, path]), source.choice("pnfbsx"))
    if word == "marks":
        return ("marks", part, source.choice([(), ("m",)]))
    if word == "wrap":
        return ("wrap", part + (source.randint(0, 2),), source.randint(0, 3), source.choice("pbsn"), ())
    return (word, path)


def random_edit(source, state):
    """Return an edit that often fits the state, and sometimes does not."""
    root, rules, _, _ = state
    sort = source.choice(["document"] * 6 + ["rule", "unrule", "letter", "kern", "set", "set"])
    face = source.choice(["plain", "bold"])
    if sort == "document":
        return random_document_edit(source, root)
    if sort == "rule":
        return ("rule", source.randint(0, len(rules) + 1), tuple(Sheet.read(source.choice(RULES)))[0])
    if sort == "unrule":
        return ("unrule", source.randint(-1, len(rules)) if source.random() < 0.2 else max(3, len(rules) - 1))
    if sort == "letter":
        advance = source.randint(5, 9)
        letter = source.choice([(advance, (BOX,)), (advance, ()), None, (advance, (BOX, OPEN))])
        return ("letter", face, source.choice("VAixolz0-"), letter)
    if sort == "kern":
        return ("kern", face, source.choice(["VA", "xo", "o-", "zz"]), source.choice([None, 0, 2, 9]))
    name, values = source.choice([
        ("width", (0, 60, 80, 100, 120)), ("height", (30, 45, 60, 90, "x")), ("columns", (1, 2, 3)), ("first", (1, 8, 9, 99)),
        ("most", (1, 9, 20)), ("near", ("x", "V A", "|", 5)), ("far", ("o", "i|o")), ("river", (0, 1)), ("nothing", (1,)),
        ("wait", (0, 1, 2)), ("loose", (2, 9)),
    ])
    return ("set", name, source.choice(values))
