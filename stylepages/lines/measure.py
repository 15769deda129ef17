"""The measure that lines are broken to."""


class Measure:
    """A width and how lines fill it, which never change."""

    def __init__(self, width, *, indent=0, align="both", hyphen=50, twin=100, river=0, loose=2):
        self.width = width
        self.indent = indent
        self.align = align
        self.hyphen = hyphen
        self.twin = twin
        self.river = river
        self.loose = loose

    @staticmethod
    def of(key):
        """Return the measure that has this key."""
        width, indent, align, hyphen, twin, river, loose = key
        return Measure(width, indent=indent, align=align, hyphen=hyphen, twin=twin, river=river, loose=loose)

    def key(self):
        """Return the tuple of the seven fields."""
        return (self.width, self.indent, self.align, self.hyphen, self.twin, self.river, self.loose)
