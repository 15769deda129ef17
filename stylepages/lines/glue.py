"""Glue: a width with what it can be stretched and shrunk."""


class Glue:
    """A triple of integers, which never changes."""

    def __init__(self, width, stretch, shrink):
        self.width = width
        self.stretch = stretch
        self.shrink = shrink

    def __add__(self, other):
        if not isinstance(other, Glue):
            return NotImplemented
        return Glue(self.width + other.width, self.stretch + other.stretch, self.shrink + other.shrink)

    def __sub__(self, other):
        if not isinstance(other, Glue):
            return NotImplemented
        return Glue(self.width - other.width, self.stretch - other.stretch, self.shrink - other.shrink)

    def __mul__(self, factor):
        if not isinstance(factor, int):
            return NotImplemented
        return Glue(self.width * factor, self.stretch * factor, self.shrink * factor)

    def __rmul__(self, factor):
        if not isinstance(factor, int):
            return NotImplemented
        return Glue(factor * self.width, factor * self.stretch, factor * self.shrink)

    def __neg__(self):
        return Glue(-self.width, -self.stretch, -self.shrink)

    def parts(self):
        """Return the tuple (width, stretch, shrink)."""
        return (self.width, self.stretch, self.shrink)
