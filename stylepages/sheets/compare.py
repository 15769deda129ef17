"""The comparison of sheets over all lineages."""

from stylepages.sheets.properties import PROPERTIES
from stylepages.sheets.search import Search
from stylepages.tree.parts import MOST_MARKS, is_part, lineage, walk

SPARE_ENDINGS = "bcdefghijklmnopqrstuvwxyz"


def _spare_kind(kinds):
    """Return the kind that stands for all kinds that no selector names."""
    choices = ["a" * many for many in range(1, 9)] + ["a" * 7 + letter for letter in SPARE_ENDINGS]
    return [kind for kind in choices if kind not in kinds][0]


def _listed_pairs(one, other):
    """Return the pairs (kind, marks) of the listed kinds and marks, in ascending order."""
    steps = [step for selector, _ in list(one) + list(other) for step in selector]
    kinds = sorted({kind for _, kind, _ in steps if kind != "*"})
    rows = [()]
    for mark in sorted({mark for _, _, marks in steps for mark in marks}):
        rows = rows + [marks + (mark,) for marks in rows if len(marks) < MOST_MARKS]
    return sorted([(kind, marks) for kind in kinds + [_spare_kind(kinds)] for marks in rows])


def first_difference(one, other):
    """Return (lineage, property) for the least lineage on which the sheets differ, or None."""
    pairs = _listed_pairs(one, other)
    best = None
    for name in PROPERTIES:
        # A property that no rule declares has the same value everywhere.
        if name in one or name in other:
            path = Search(one, other, name, pairs).least()
            if path is not None and (best is None or (len(path), path) < (len(best[0]), best[0])):
                best = (path, name)
    return best


def parting_document(one, other):
    """Return the document whose innermost part has the least lineage on which the sheets differ, or None."""
    found = first_difference(one, other)
    if found is None:
        return None
    items = ()
    for kind, marks in reversed(list(found[0])):
        items = ((kind, marks, items),)
    return items[0]


def needless_rules(sheet):
    """Return the numbers of the rules each of which can be left out alone without a difference."""
    return [at for at in range(len(sheet)) if first_difference(sheet, sheet.without_rule(at)) is None]


def affected_parts(root, one, other):
    """Return the paths of the parts whose values differ between the sheets, in document order."""
    rows = [(path, lineage(root, path)) for path, item in walk(root) if is_part(item)]
    return [path for path, pairs in rows if one.values_of(pairs) != other.values_of(pairs)]
