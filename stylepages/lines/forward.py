"""The breaking of a row into lines, found from the beginning."""

from stylepages.errors import Blocked
from stylepages.lines.blocked import blocked_stretch
from stylepages.lines.possible import PossibleLines


def _ways_to(lines, known, place):
    """Return the ways from the beginning to a place, the best first.

    Each way is (price, number of lines, ends, start of its last line). The dict
    `known` has the best way (price, number of lines, ends) with each last line.
    """
    return sorted([known[(start, place)] + (start,) for start in lines.starts(place) if (start, place) in known])


def _way_with(lines, ways, place, end):
    """Return the best way that goes on with the line (place, end), or None."""
    for price, many, ends, start in ways:
        if lines.may_follow(start, place, end):
            return (price + lines.price_behind(place, end), many + 1, ends + (end,))
    return None


def break_forward(row, measure):
    """Return (price, ends) of the breaking."""
    lines = PossibleLines(row, measure)
    if lines.last == 0:
        return (0, ())
    known = {(0, end): (lines.price_behind(0, end), 1, (end,)) for end in lines.ends(0)}
    for place in range(1, lines.last):
        ways = _ways_to(lines, known, place)
        for end in lines.ends(place):
            way = _way_with(lines, ways, place, end)
            if way is not None:
                known[(place, end)] = way
    ways = _ways_to(lines, known, lines.last)
    if not ways:
        start, end = blocked_stretch(row, measure)
        raise Blocked(start, end)
    price, _, ends = ways[0][:3]
    return (price, ends)
