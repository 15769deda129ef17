"""The possible lines of a bare row, and which of them may follow one another."""

from stylepages.lines.glue import Glue
from stylepages.lines.prices import (
    hyphen_glue,
    joint_glue,
    overlap_often,
    places_with_glue,
    price_with_glue,
    spans_between,
    twin_price,
)


def _glues_from(row, start):
    """Return the glues of the lines from a place on, to each end in order, without hyphens at their ends."""
    widths, joints = row
    glue = Glue(widths[start], 0, 0)
    glues = [glue]
    for at in range(start + 1, len(widths)):
        glue = glue + joint_glue(joints[at - 1]) + Glue(widths[at], 0, 0)
        glues.append(glue)
    return glues


class PossibleLines:
    """The possible lines of one row with one measure."""

    def __init__(self, row, measure):
        self.last = len(row[0])
        self._row = row
        self._measure = measure
        self._prices = {}
        self._glues = {}
        self._starts = [[] for _ in range(self.last + 1)]
        self._ends = [[] for _ in range(self.last + 1)]
        self._spans = {}
        for start in range(self.last):
            self._price_lines_from(start)

    def _price_lines_from(self, start):
        for at, glue in enumerate(_glues_from(self._row, start)):
            end = start + at + 1
            whole = glue + hyphen_glue(self._row, end)
            price = price_with_glue(self._row, start, end, self._measure, whole)
            if price is not None:
                self._prices[(start, end)] = price
                self._glues[(start, end)] = whole
                self._starts[end].append(start)
                self._ends[start].append(end)

    def starts(self, end):
        """Return the list of the places at which possible lines to this end begin, ascending."""
        return list(self._starts[end])

    def ends(self, start):
        """Return the list of the places at which possible lines from this place end, ascending."""
        return list(self._ends[start])

    def price(self, start, end):
        """Return the price of a possible line."""
        return self._prices[(start, end)]

    def price_behind(self, start, end):
        """Return the price of a possible line with its pair price behind any line that it may follow."""
        return self.price(start, end) + twin_price(self._row, start, end, self._measure)

    def _spans_of(self, start, end):
        line = (start, end)
        if line not in self._spans:
            places = places_with_glue(self._row, start, end, self._measure, self._glues[line])
            self._spans[line] = spans_between(self._row, start, places)
        return self._spans[line]

    def may_follow(self, start, middle, end):
        """Tell whether the possible line (middle, end) may follow the possible line (start, middle)."""
        if self._measure.river == 0:
            return True
        return not overlap_often(self._spans_of(start, middle), self._spans_of(middle, end), self._measure.river)
