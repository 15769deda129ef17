"""The cells of a setting: what each of them holds follows from its key alone."""

from stylepages.errors import Blocked, NoPages
from stylepages.lines.breaking import break_lines
from stylepages.lines.forward import break_forward
from stylepages.lines.measure import Measure
from stylepages.pages.breaking import break_pages
from stylepages.pages.forward import pages_forward
from stylepages.pages.frame import Frame
from stylepages.sheets.properties import PROPERTIES, computed
from stylepages.words.shape import shape


def _values(key, _):
    """Return the dict of the values of a part."""
    parent, declared = key
    return computed(dict(zip(PROPERTIES, parent)), dict(declared))


def _pieces(key, _):
    resolved, measures = key
    return shape(resolved, measures)


def _lines(key, forward):
    """Return ("ends", ends) of a breaking, or ("blocked", start, end)."""
    row, measure = key
    breaker = break_forward if forward else break_lines
    try:
        return ("ends", breaker(row, Measure.of(measure))[1])
    except Blocked as e:
        return ("blocked", e.start, e.end)


def _pages(key, forward):
    """Return ("pages", pages), or ("short", lines) if there are none."""
    galley, frame = key
    breaker = pages_forward if forward else break_pages
    try:
        return ("pages", breaker(galley, Frame.of(frame))[1])
    except NoPages as e:
        return ("short", e.lines)


WORKERS = {"values": _values, "pieces": _pieces, "lines": _lines, "pages": _pages}


class Cells:
    """The cells that one setting needs; those that are kept from before are not worked out again."""

    def __init__(self, kept, forward):
        self._kept = kept
        self._forward = forward
        self._needed = {}
        self._fresh = []

    def need(self, stage, key):
        """Return what the cell (stage, key) holds."""
        cell = (stage, key)
        if cell not in self._needed:
            if cell in self._kept:
                self._needed[cell] = self._kept[cell]
            else:
                worker = WORKERS[stage]
                self._needed[cell] = worker(key, self._forward)
                self._fresh.append(cell)
        return self._needed[cell]

    def values_of_part(self, parent, declared):
        """Return the dict of the values of a part with these values of its parent and declared values."""
        return self.need("values", (tuple(parent.values()), tuple(declared.items())))

    def needed(self):
        """Return the dict from the cells that have been needed to what they hold, in order."""
        return {cell: self._needed[cell] for cell in self._needed}

    def fresh(self):
        """Return the list of the cells that have been worked out, in order."""
        return list(self._fresh)
