"""The settings of a whole setting."""

from stylepages.errors import BadSetting
from stylepages.lines.measure import Measure
from stylepages.pages.frame import Frame
from stylepages.tree.parts import TEXT_CHARACTERS
from stylepages.words.runs import is_letter_of_run

# For each setting its default; for a number also the least and the greatest one.
TABLE = {
    "width": (300, 1, 5000),
    "gutter": (20, 0, 500),
    "height": (200, 1, 5000),
    "columns": (1, 1, 2),
    "first": (1, 1, 9000),
    "most": (20, 1, 60),
    "near": ("here",),
    "far": ("p",),
    "lost": ("?",),
    "hyphen": (50, 0, 9999),
    "twin": (100, 0, 9999),
    "river": (0, 0, 9),
    "loose": (2, 0, 9),
    "rule": (4, 0, 200),
    "under": (4, 0, 200),
    "wait": (1, 0, 3),
    "late": (50, 0, 9999),
    "uneven": (1, 0, 99),
}

LONGEST_SHOWN = 12


def _is_shown_text(value):
    if not isinstance(value, str) or not 1 <= len(value) <= LONGEST_SHOWN:
        return False
    if not all([char in TEXT_CHARACTERS for char in value]):
        return False
    return any([is_letter_of_run(char) for char in value])


def _fits(name, value):
    """Tell whether the setting of this name can have the value."""
    if name not in TABLE:
        return False
    bounds = TABLE[name][1:]
    if not bounds:
        return _is_shown_text(value)
    return isinstance(value, int) and not isinstance(value, bool) and bounds[0] <= value <= bounds[1]


def _check(given):
    """Raise an error for the first of the given settings that does not exist or does not fit."""
    for name, value in given.items():
        if not _fits(name, value):
            raise BadSetting(name)


class Settings:
    """The settings, which never change."""

    def __init__(self, **given):
        _check(given)
        self._chosen = {name: given.get(name, TABLE[name][0]) for name in TABLE}

    def value(self, name):
        """Return the value of a setting."""
        if name not in self._chosen:
            raise BadSetting(name)
        return self._chosen[name]

    def data(self):
        """Return the tuple of the pairs (name, value), in the order of the table."""
        return tuple(self._chosen.items())

    def changed(self, **given):
        """Return settings in which the given ones are changed."""
        # In the merged dict the given ones no longer stand in the order of the call.
        _check(given)
        merged = {**self._chosen, **given}
        return Settings(**merged)

    def classes(self):
        """Return the tuple of the numbers of figures that the numbers of pages can have."""
        first = self.value("first")
        last = first + self.value("most") - 1
        return tuple(range(len(str(first)), len(str(last)) + 1))

    def measure(self, style, *, full=False):
        """Return the measure for a style, with the width of all columns if `full` is True."""
        width = self.value("width")
        if full:
            columns = self.value("columns")
            width = columns * width + (columns - 1) * self.value("gutter")
        return Measure(
            width,
            indent=style[1],
            align=style[0],
            hyphen=self.value("hyphen"),
            twin=self.value("twin"),
            river=self.value("river"),
            loose=self.value("loose"),
        )

    def frame(self):
        """Return the frame of the pages."""
        return Frame(
            self.value("height"),
            columns=self.value("columns"),
            rule=self.value("rule"),
            under=self.value("under"),
            wait=self.value("wait"),
            late=self.value("late"),
            uneven=self.value("uneven"),
        )
