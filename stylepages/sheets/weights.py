"""The weights of selectors."""


class Weight:
    """Two counts, of which the marks count first."""

    def __init__(self, marks, kinds):
        self.marks = marks
        self.kinds = kinds

    def __eq__(self, other):
        if not isinstance(other, Weight):
            return False
        return (self.marks, self.kinds) == (other.marks, other.kinds)

    def __lt__(self, other):
        if not isinstance(other, Weight):
            return NotImplemented
        return (self.marks, self.kinds) < (other.marks, other.kinds)

    def __add__(self, other):
        if not isinstance(other, Weight):
            return NotImplemented
        return Weight(self.marks + other.marks, self.kinds + other.kinds)
