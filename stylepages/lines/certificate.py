"""The certificate of a row: what still has to be paid behind each line."""

from stylepages.lines.breaking import rests_behind
from stylepages.lines.possible import PossibleLines


def _is_reached(lines, starts, place, end):
    """Tell whether the line (place, end) may follow a line to the place from one of the starts."""
    for start in starts:
        if lines.may_follow(start, place, end):
            return True
    return False


def _reached_lines(lines):
    """Return the list of the lines that can be reached, in order."""
    reached = {(0, end): True for end in lines.ends(0)}
    for place in range(1, lines.last):
        starts = [start for start in lines.starts(place) if (start, place) in reached]
        for end in lines.ends(place):
            if _is_reached(lines, starts, place, end):
                reached[(place, end)] = True
    return sorted(reached)


def line_certificate(row, measure):
    """Return the list of (start, end, price, rest) for all lines that can be reached, in order."""
    lines = PossibleLines(row, measure)
    rests = rests_behind(lines)
    rows = []
    for start, end in _reached_lines(lines):
        rest = rests[(start, end)][0] if (start, end) in rests else None
        rows.append((start, end, lines.price(start, end), rest))
    return rows
