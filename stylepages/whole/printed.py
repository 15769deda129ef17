"""The printed pages of a layout."""

from stylepages.printing.places import print_block, print_line


class Printer:
    """Prints the pages of one layout."""

    def __init__(self, layout, settings):
        self._settings = settings
        self._blocks = layout.blocks
        self._galley = layout.galley
        self._pages = layout.pages
        self._marks = layout.marks_of_galley()
        self._lines = [(block, span) for block in layout.blocks["paragraph"] for span in block.spans_of_lines()]

    def _asides(self, blocks, top):
        """Return the tuple of the set lines of each of the notes or floats, which stand one behind the other."""
        rows = []
        for block in blocks:
            measure = self._settings.measure(block.style, full=True)
            rows.append(print_block(block.pieces, block.breaks, measure, block.lead(), top=top))
            top = top + block.whole_height()
        return tuple(rows)

    def _column(self, first, end, left, top):
        """Return the tuple of the set lines of a column with these lines of the galley."""
        rows = []
        for line in range(first, end):
            if line > first:
                top = top + self._galley[line - 1][0] + self._galley[line][1]
            block, span = self._lines[line]
            measure = self._settings.measure(block.style)
            rows.append(print_line(block.pieces, span[0], span[1], measure, left=left, top=top))
        return tuple(rows)

    def _columns(self, page, top):
        line, end, _, _, split = page
        first = self._column(line, split, 0, top)
        if self._settings.value("columns") == 1:
            return (first,)
        left = self._settings.value("width") + self._settings.value("gutter")
        return (first, self._column(split, end, left, top))

    def _notes_of(self, page):
        """Return the notes whose marks stand on the page, in order."""
        marks = [mark for line in range(page[0], page[1]) for mark in self._marks[line]]
        return [self._blocks["note"][number] for sort, number in marks if sort == "note"]

    def _printed(self, number, page):
        floats = self._blocks["float"][page[2]:page[3]]
        top = sum([block.whole_height() for block in floats])
        if floats:
            top = top + self._settings.value("under")
        notes = self._notes_of(page)
        foot = self._settings.value("height") - sum([block.whole_height() for block in notes])
        return (number, self._asides(floats, 0), self._columns(page, top), self._asides(notes, foot))

    def printed_pages(self):
        """Return the tuple of the printed pages."""
        first = self._settings.value("first")
        return tuple([self._printed(first + at, page) for at, page in enumerate(self._pages)])
