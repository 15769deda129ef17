"""The galley: the lines of all paragraphs in one row."""


def _lines_of(paragraph, before):
    """Return the galley lines of a paragraph; `before` is the paragraph before it, or None."""
    lines, lead, least, _, above, _ = paragraph
    space = 0 if before is None else max(above, before[5])
    cut = before is None or before[3] == "no"
    rows = []
    for at, (notes, floats) in enumerate(lines):
        if at > 0:
            space = 0
            cut = least <= at <= len(lines) - least
        rows.append((lead, space, cut, notes, floats))
    return rows


def make_galley(paragraphs):
    """Return the galley of a tuple of paragraphs (lines, lead, least, keep, above, below)."""
    galley = []
    before = None
    for paragraph in paragraphs:
        galley.extend(_lines_of(paragraph, before))
        before = paragraph
    return tuple(galley)
