"""Selectors: the lineages that they match, and their weights."""

from stylepages.sheets.weights import Weight


def step_fits(step, pair):
    """Tell whether a step fits a pair of a lineage."""
    _, kind, marks = step
    return kind in ("*", pair[0]) and all([mark in pair[1] for mark in marks])


def _follows(joint, ends, position):
    """Tell whether a step at the position may stand behind one that ends at one of `ends`."""
    if joint == ">":
        return position - 1 in ends
    return len(ends) > 0 and ends[0] < position


def matches(selector, path):
    """Tell whether the selector matches the lineage."""
    ends = [k for k in range(len(path)) if step_fits(selector[0], path[k])]
    for step in selector[1:]:
        # All positions are kept at which the steps so far can end, in ascending order.
        before = ends
        ends = [k for k in range(len(path)) if step_fits(step, path[k]) and _follows(step[0], before, k)]
    return len(path) - 1 in ends


def weight_of(selector):
    """Return the weight of the selector."""
    weight = Weight(0, 0)
    for _, kind, marks in selector:
        weight = weight + Weight(len(marks), 0 if kind == "*" else 1)
    return weight
