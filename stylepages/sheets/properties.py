"""The ten properties, and the values of a part."""

PROPERTIES = ("size", "lead", "face", "align", "least", "place", "keep", "indent", "above", "below")

RANGES = {
    "size": (1, 12),
    "lead": (1, 99),
    "least": (1, 4),
    "indent": (0, 99),
    "above": (0, 99),
    "below": (0, 99),
}

WORDS = {
    "face": ("plain", "bold"),
    "align": ("both", "left"),
    "place": ("block", "line", "none", "note", "float"),
    "keep": ("yes", "no"),
}

WITH_RATIO = ("size", "lead", "indent", "above", "below")
LARGEST_OF_RATIO = 99

INHERITED = ("size", "lead", "face", "align", "least")

INITIAL = {
    "size": 2,
    "lead": 12,
    "face": "plain",
    "align": "both",
    "least": 1,
    "place": "line",
    "keep": "no",
    "indent": 0,
    "above": 0,
    "below": 0,
}


def initial_values():
    """Return the dict of the initial values of all properties."""
    return dict(INITIAL)


def is_value(name, value):
    """Tell whether the value can be declared for the property."""
    if isinstance(value, str):
        return value in ("same", "first") or (name in WORDS and value in WORDS[name])
    if isinstance(value, tuple):
        return name in WITH_RATIO and len(value) == 2 and all([1 <= n <= LARGEST_OF_RATIO for n in value])
    if isinstance(value, bool) or name not in RANGES:
        return False
    low, high = RANGES[name]
    return low <= value <= high


def value_of(name, declared, parent, size):
    """Return the value that one property of a part has.

    `declared` is the declared value or None, `parent` the parent's value;
    `size` is the size of which a ratio is taken.
    """
    if declared is None:
        return parent if name in INHERITED else INITIAL[name]
    if declared == "same":
        return parent
    if declared == "first":
        return INITIAL[name]
    if isinstance(declared, tuple):
        low, high = RANGES[name]
        return max(low, min(high, size * declared[0] // declared[1]))
    return declared


def computed(parent, declared):
    """Return the dict of the values of a part, from its parent's values and its declared values."""
    values = {}
    for name in PROPERTIES:
        # The size comes first in the table, so that the others find the part's own size here.
        size = values.get("size", parent["size"])
        values[name] = value_of(name, declared.get(name), parent[name], size)
    return values
