"""The values of the parts of a document that are laid out."""

from stylepages.sheets.properties import initial_values
from stylepages.tree.parts import is_part, lineage, walk


def _lies_in_none(path, values):
    """Tell whether the part that has this item is left out, or lies in one that is."""
    owner = path[:-1]
    # What the root declares for its own place does not matter.
    return owner not in values or (owner != () and values[owner]["place"] == "none")


def values_of_parts(root, sheet, work_out):
    """Return the dict from path to values of all parts, without those that lie in a part that is left out.

    `work_out` is called with the values of the parent and the declared values of
    each part, in document order, and returns the values of the part.
    """
    values = {}
    for path, item in walk(root):
        if is_part(item) and (path == () or not _lies_in_none(path, values)):
            parent = values[path[:-1]] if path else initial_values()
            values[path] = work_out(parent, sheet.declared(lineage(root, path)))
    return values
