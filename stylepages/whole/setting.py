"""The whole setting of a document."""

from stylepages.errors import NoAssignment
from stylepages.refs.assignments import settle
from stylepages.whole.cells import Cells
from stylepages.whole.layout import Block
from stylepages.whole.printed import Printer
from stylepages.whole.trial import Trial
from stylepages.words.flow import flow_of_values
from stylepages.words.values import values_of_parts


def _final_texts(assignment, numbers, settings):
    """Return the shown texts of the references, whose labels stand on the pages with these numbers."""
    near, far = settings.value("near"), settings.value("far")
    return tuple([near if form == 0 else far + str(number) for form, number in zip(assignment, numbers)])


def _show_pages(trial, layout, paragraphs, shown):
    """Put the pieces with the real numbers of the pages into the paragraphs that have references."""
    blocks = layout.blocks["paragraph"]
    for at, (runs, style) in enumerate(paragraphs):
        if any([run[0] == "ref" for run in runs]):
            blocks[at] = Block(style, trial.pieces_of(runs, shown), blocks[at].breaks)


def set_with_cells(root, sheet, faces, settings, cells):
    """Return the result and the label pages, which are None if no assignment is consistent."""
    values = values_of_parts(root, sheet, cells.values_of_part)
    flowed = flow_of_values(root, values, settings.value("lost"))
    paragraphs, _, _, labels, references = flowed
    trial = Trial(flowed, faces, settings, cells)
    try:
        assignment, _ = settle(trial, len(references), settings.classes())
    except NoAssignment as e:
        return (("unset", e.tried), None)
    layout = trial.layout(assignment)
    marked = layout.pages_of_marks(settings.value("first"))
    numbers = [marked[("label", label)] for label in range(len(labels))]
    shown = _final_texts(assignment, [numbers[label] for label in references], settings)
    _show_pages(trial, layout, paragraphs, shown)
    pages = Printer(layout, settings).printed_pages()
    return (("pages", assignment, pages), list(zip(labels, numbers)))


def set_document(root, sheet, faces, settings, *, forward=False):
    """Return the result of setting the document."""
    return set_with_cells(root, sheet, faces, settings, Cells({}, forward))[0]


def cells_of(root, sheet, faces, settings):
    """Return the list of the cells that the setting needs, in order."""
    cells = Cells({}, False)
    set_with_cells(root, sheet, faces, settings, cells)
    return list(cells.needed())


def label_pages(root, sheet, faces, settings):
    """Return the list of the pairs (name, number of the page) of all labels, or None."""
    return set_with_cells(root, sheet, faces, settings, Cells({}, False))[1]
