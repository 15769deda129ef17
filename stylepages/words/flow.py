"""The flow of a document: its content, sorted into paragraphs, notes and floats."""

from stylepages.sheets.properties import computed
from stylepages.tree.parts import is_part
from stylepages.words.runs import has_letters, joined_runs
from stylepages.words.values import values_of_parts

STYLE_NAMES = ("align", "indent", "lead", "least", "keep", "above", "below")


def _style_of(values):
    return tuple([values[name] for name in STYLE_NAMES])


def _texts(part, path, values):
    """Return the text runs of all texts in a part, without those of parts that are left out."""
    own = values[path]
    runs = []
    for k, item in enumerate(part[2]):
        inner = path + (k,)
        if isinstance(item, str):
            runs.append(("text", item, own["size"], own["face"]))
        elif is_part(item) and values[inner]["place"] != "none":
            runs.extend(_texts(item, inner, values))
    return runs


def _events_of_part(part, path, values):
    """Return the events with which the main walk meets a part."""
    place = values[path]["place"]
    if place == "none":
        return []
    if place == "line":
        return _events(part, path, values)
    style = _style_of(values[path])
    if place == "block":
        return [("open", style)] + _events(part, path, values) + [("close",)]
    runs = joined_runs(_texts(part, path, values))
    return [(place, runs, style)] if has_letters(runs) else []


def _events(part, path, values):
    """Return what the main walk meets in a part.

    Text runs stand there as they are. The other events are `("label", name)`,
    `("reference", name, size, face)`, `("open", style)` and `("close",)` for a
    block, and `("note", runs, style)` and `("float", runs, style)`.
    """
    own = values[path]
    events = []
    for k, item in enumerate(part[2]):
        if isinstance(item, str):
            events.append(("text", item, own["size"], own["face"]))
        elif is_part(item):
            events.extend(_events_of_part(item, path + (k,), values))
        elif item[0] == "#":
            events.append(("label", item[1]))
        else:
            events.append(("reference", item[1], own["size"], own["face"]))
    return events


def _numbered(events, labels, lost):
    """Return the events with numbered mark runs and ref runs in the places of labels, asides and references."""
    many = {"label": 0, "note": 0, "float": 0, "ref": 0}
    rows = []
    for event in events:
        sort = event[0]
        if sort in ("label", "note", "float"):
            rows.append(("mark", sort, many[sort]))
            many[sort] += 1
        elif sort == "reference" and event[1] in labels:
            rows.append(("ref", many["ref"]) + event[2:])
            many["ref"] += 1
        elif sort == "reference":
            rows.append(("text", lost) + event[2:])
        else:
            rows.append(event)
    return rows


def _closed_paragraphs(rows, style):
    """Return the pairs (runs, style) of all paragraphs in the order in which they are closed."""
    styles = [style]
    closed = []
    runs = []
    for row in rows:
        if row[0] not in ("open", "close"):
            runs.append(row)
            continue
        closed.append((runs, styles[-1]))
        runs = []
        if row[0] == "open":
            styles.append(row[1])
        else:
            styles.pop()
    closed.append((runs, styles[-1]))
    return closed


def _paragraphs_with_letters(closed):
    """Return the paragraphs of the flow; the marks of those without letters go to their neighbours."""
    paragraphs = []
    marks = []
    for runs, style in closed:
        if has_letters(runs):
            paragraphs.append((joined_runs(marks + runs), style))
            marks = []
        else:
            marks = marks + [run for run in runs if run[0] == "mark"]
    if paragraphs:
        runs, style = paragraphs[-1]
        paragraphs[-1] = (runs + tuple(marks), style)
    return tuple(paragraphs)


def _asides(events, sort):
    return tuple([event[1:] for event in events if event[0] == sort])


def flow_of_values(root, values, lost):
    """Return the flow of a document whose parts have the values of the dict from paths to values."""
    events = _events(root, (), values)
    labels = [event[1] for event in events if event[0] == "label"]
    closed = _closed_paragraphs(_numbered(events, labels, lost), _style_of(values[()]))
    paragraphs = _paragraphs_with_letters(closed)
    if not paragraphs:
        return ((), (), (), (), ())
    named = [event[1] for event in events if event[0] == "reference"]
    references = tuple([labels.index(name) for name in named if name in labels])
    return (paragraphs, _asides(events, "note"), _asides(events, "float"), tuple(labels), references)


def flow(root, sheet, *, lost="?"):
    """Return the flow (paragraphs, notes, floats, labels, references) of the document."""
    return flow_of_values(root, values_of_parts(root, sheet, computed), lost)
