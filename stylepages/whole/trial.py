"""The trial of an assignment: its lines and its pages, up to the first fault."""

from stylepages.errors import NoLetter
from stylepages.pages.galley import make_galley
from stylepages.whole.cells import Cells
from stylepages.whole.layout import Block, Layout
from stylepages.words.resolve import measures_of, resolve
from stylepages.words.shape import bare

SORTS = ("paragraph", "note", "float")


def tried_texts(assignment, settings):
    """Return the shown texts of the references while the assignment is tried."""
    near, far = settings.value("near"), settings.value("far")
    return tuple([near if form == 0 else far + "0" * form for form in assignment])


def _heights(marks, sort, heights):
    return tuple([heights[mark] for mark in marks if mark[0] == sort])


def _galley_paragraph(block, heights):
    """Return the paragraph from which the lines of the galley are made."""
    _, _, lead, least, keep, above, below = block.style
    lines = [(_heights(marks, "note", heights), _heights(marks, "float", heights)) for marks in block.marks_of_lines()]
    return (tuple(lines), lead, least, keep, above, below)


class Trial:
    """The trials of assignments for one flow; a call of the object tries one and returns the verdict."""

    def __init__(self, flowed, faces, settings, cells):
        self._flowed = flowed
        self._faces = faces
        self._settings = settings
        self._cells = cells

    def pieces_of(self, runs, shown):
        """Return the pieces of runs whose references have these shown texts."""
        resolved = resolve(runs, shown)
        return self._cells.need("pieces", (resolved, measures_of(resolved, self._faces)))

    def _break_block(self, layout, sort, runs, style, shown):
        """Break one paragraph, note or float, and put it or its fault into the layout."""
        try:
            pieces = self.pieces_of(runs, shown)
        except NoLetter as e:
            layout.fault = ("letter", e.char)
            return
        measure = self._settings.measure(style, full=sort != "paragraph")
        found = self._cells.need("lines", (bare(pieces), measure.key()))
        blocks = layout.blocks[sort]
        if found[0] == "blocked":
            layout.fault = ("line", sort, len(blocks)) + found[1:]
        else:
            blocks.append(Block(style, pieces, found[1]))

    def _make_pages(self, layout):
        """Make the pages, and put them or their fault into the layout."""
        heights = layout.heights_of_asides()
        paragraphs = [_galley_paragraph(block, heights) for block in layout.blocks["paragraph"]]
        layout.galley = make_galley(tuple(paragraphs))
        found = self._cells.need("pages", (layout.galley, self._settings.frame().key()))
        if found[0] == "short":
            layout.fault = ("page", found[1])
        elif len(found[1]) > self._settings.value("most"):
            layout.fault = ("most", len(found[1]))
        else:
            layout.pages = found[1]

    def layout(self, assignment):
        """Return the layout to which the assignment leads."""
        shown = tried_texts(assignment, self._settings)
        layout = Layout()
        for sort, rows in zip(SORTS, self._flowed[:3]):
            for runs, style in rows:
                if layout.fault is None:
                    self._break_block(layout, sort, runs, style, shown)
        if layout.fault is None:
            self._make_pages(layout)
        return layout

    def __call__(self, assignment):
        layout = self.layout(assignment)
        if layout.fault is not None:
            return layout.fault
        numbers = layout.pages_of_marks(self._settings.value("first"))
        forms = []
        for number, label in enumerate(self._flowed[4]):
            page = numbers[("label", label)]
            forms.append(0 if numbers[("ref", number)] == page else len(str(page)))
        return ("forms", tuple(forms))


def try_assignment(flowed, faces, settings, assignment):
    """Return the verdict of an assignment for a flow."""
    trial = Trial(flowed, faces, settings, Cells({}, False))
    return trial(assignment)
