"""Ink: sets of cells."""

from stylepages.errors import OpenOutline
from stylepages.faces.strokes import corners


def _rows_of(cells):
    """Return the dict from each y to the list of the x of its cells, all ascending."""
    rows = {}
    for y, x in sorted({(y, x) for x, y in cells}):
        rows.setdefault(y, []).append(x)
    return rows


class Ink:
    """A set of cells, which never changes."""

    def __init__(self, cells):
        self._rows = _rows_of(cells)
        self._cells = [(x, y) for y, row in self._rows.items() for x in row]
        self._inked = {cell: True for cell in self._cells}

    def cells(self):
        """Return the list of the cells, in ascending order of y, then of x."""
        return list(self._cells)

    def _spans_of(self, y):
        firsts = [x for x in self._rows[y] if (x - 1, y) not in self._inked]
        ends = [x + 1 for x in self._rows[y] if (x + 1, y) not in self._inked]
        return tuple(zip(firsts, ends))

    def spans(self):
        """Return the pairs (y, spans) of the rows that have cells, ascending."""
        return [(y, self._spans_of(y)) for y in self._rows]

    def left(self, y):
        """Return the left end of the row, or None."""
        row = self._rows.get(y)
        return None if row is None else row[0]

    def right(self, y):
        """Return the right end of the row, or None."""
        row = self._rows.get(y)
        return None if row is None else row[-1] + 1

    def moved(self, dx, dy):
        """Return the ink whose cells are moved by that much."""
        return Ink([(x + dx, y + dy) for x, y in self._cells])

    def __or__(self, other):
        if not isinstance(other, Ink):
            return NotImplemented
        return Ink(self._cells + other._cells)

    def __and__(self, other):
        if not isinstance(other, Ink):
            return NotImplemented
        return Ink([cell for cell in self._cells if cell in other._inked])

    def __sub__(self, other):
        if not isinstance(other, Ink):
            return NotImplemented
        return Ink([cell for cell in self._cells if cell not in other._inked])

    def __xor__(self, other):
        if not isinstance(other, Ink):
            return NotImplemented
        mine = [cell for cell in self._cells if cell not in other._inked]
        return Ink(mine + [cell for cell in other._cells if cell not in self._inked])

    def __contains__(self, cell):
        return cell in self._inked

    def __len__(self):
        return len(self._cells)

    def __iter__(self):
        return iter(self._cells)


def _crossings(path):
    """Return (y, x) for every vertical unit step between neighbouring corners of the path."""
    found = []
    for (x, y), (_, after) in zip(path, path[1:]):
        if after != y:
            found.append((min(y, after), x))
    return found


def ink_of(outlines):
    """Return the ink of a tuple of outlines."""
    counts = {}
    for place, outline in enumerate(outlines):
        path = corners(outline)
        if path[0] != path[-1]:
            raise OpenOutline(place)
        for crossing in _crossings(path):
            counts[crossing] = counts.get(crossing, 0) + 1
    # A closed outline crosses each row an even number of times, so two borders that
    # follow one another in this order, counted from the first, stand in one row.
    borders = sorted([crossing for crossing, count in counts.items() if count & 1])
    cells = []
    for (y, first), (_, end) in zip(borders[::2], borders[1::2]):
        cells.extend([(x, y) for x in range(first, end)])
    return Ink(cells)
