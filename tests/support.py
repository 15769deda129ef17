"""What several tests share: sample parts, and plain readings of the document's points."""

from itertools import combinations

TEXT_SIGNS = (
    " abcdefghijklmnopqrstuvwxyz" + "ABCDEFGHIJKLMNOPQRSTUVWXYZ" + "0123456789" + ".,;:!?'()|"
)
PRINTABLE = "".join(chr(code) for code in range(ord(" "), ord("~") + 1))

TABLE = {
    # property: (range, words, takes ratios, inherited, initial value)
    "size": ((1, 12), (), True, True, 2),
    "lead": ((1, 99), (), True, True, 12),
    "face": (None, ("plain", "bold"), False, True, "plain"),
    "align": (None, ("both", "left"), False, True, "both"),
    "least": ((1, 4), (), False, True, 1),
    "place": (None, ("block", "line", "none", "note", "float"), False, False, "line"),
    "keep": (None, ("yes", "no"), False, False, "no"),
    "indent": ((0, 99), (), True, False, 0),
    "above": ((0, 99), (), True, False, 0),
    "below": ((0, 99), (), True, False, 0),
}

SAMPLE = (
    "doc",
    ("a", "b"),
    (
        "one",
        ("p", (), ("two", ("em", ("red",), ("three", ("#", "top"))), ("@", "top"))),
        ("#", "top"),
        ("p", (), ()),
        "four",
    ),
)


def nested(depth, inner=()):
    """Return parts within parts, as deep as that."""
    part = ("p", (), inner)
    for _ in range(depth - 1):
        part = ("p", (), (part,))
    return part


def random_part(source, depth):
    """Return a part that is at most as deep as that."""
    items = []
    for _ in range(source.randint(0, 3)):
        items.append(source.choice(["x", "y", ("#", "a"), ("@", "a"), "part", "part"]))
        if items[-1] == "part":
            items[-1] = random_part(source, depth - 1) if depth > 1 else "x"
    return (source.choice("pq"), source.choice([(), ("m",), ("m", "n")]), tuple(items))


def random_document(source):
    """Return a document of at most four levels."""
    root = random_part(source, 4)
    while repr(root).count("@") > 3 or repr(root).count("(") > 40:
        root = random_part(source, 4)
    return root


def plainly_matches(selector, path):
    """Point 17, by trying all choices of positions."""
    for chosen in combinations(range(len(path)), len(selector)):
        if chosen[-1] != len(path) - 1:
            continue
        good = True
        for number, (step, at) in enumerate(zip(selector, chosen)):
            joint, kind, marks = step
            good = good and kind in ("*", path[at][0]) and set(marks) <= set(path[at][1])
            if joint == ">":
                good = good and at == chosen[number - 1] + 1
        if good:
            return True
    return False


def plain_winner(rules, path, name):
    """Point 20, by comparing all declarations."""
    best = None
    for at, (selector, declarations) in enumerate(rules):
        if not plainly_matches(selector, path):
            continue
        marks = sum(len(step[2]) for step in selector)
        kinds = sum(step[1] != "*" for step in selector)
        for k, (declared, _, strong) in enumerate(declarations):
            rank = (strong, marks, kinds, at, k)
            if declared == name and (best is None or rank > best):
                best = rank
    return None if best is None else best[-2:]


def plain_values(rules, path):
    """Points 16 and 20, property by property."""
    values = {name: row[4] for name, row in TABLE.items()}
    for depth in range(1, len(path) + 1):
        parent, values = values, {}
        for name, (span, _, _, inherited, initial) in TABLE.items():
            won = plain_winner(rules, path[:depth], name)
            value = "nothing" if won is None else rules[won[0]][1][won[1]][1]
            if value == "nothing":
                value = "same" if inherited else "first"
            if value == "same":
                value = parent[name]
            elif value == "first":
                value = initial
            elif isinstance(value, tuple):
                size = parent["size"] if name == "size" else values["size"]
                value = size * value[0] // value[1]
                value = min(max(value, span[0]), span[1])
            values[name] = value
    return values
