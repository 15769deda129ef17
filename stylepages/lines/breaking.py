"""The breaking of a row into lines, found from the end."""

from stylepages.errors import Blocked
from stylepages.lines.blocked import blocked_stretch
from stylepages.lines.possible import PossibleLines


def ways_from(lines, rests, place):
    """Return the ways to the end that begin at a place, the best first.

    Each way is (price, number of lines, end of its first line). The dict `rests`
    has the rest behind each line that begins there and leads to the end.
    """
    ways = []
    for end in lines.ends(place):
        if (place, end) in rests:
            price, many, _ = rests[(place, end)]
            ways.append((lines.price_behind(place, end) + price, many + 1, end))
    return sorted(ways)


def _first_way(lines, start, place, ways):
    """Return the best of the ways whose first line may follow the line (start, place), or None."""
    for way in ways:
        if lines.may_follow(start, place, way[2]):
            return way
    return None


def rests_behind(lines):
    """Return the dict from each possible line that leads to the end to the best way behind it.

    Behind a last line this is (0, 0, None).
    """
    rests = {(start, lines.last): (0, 0, None) for start in lines.starts(lines.last)}
    for place in range(lines.last - 1, 0, -1):
        ways = ways_from(lines, rests, place)
        for start in lines.starts(place):
            way = _first_way(lines, start, place, ways)
            if way is not None:
                rests[(start, place)] = way
    return rests


def break_lines(row, measure):
    """Return (price, ends) of the breaking."""
    lines = PossibleLines(row, measure)
    if lines.last == 0:
        return (0, ())
    rests = rests_behind(lines)
    ways = ways_from(lines, rests, 0)
    if not ways:
        start, end = blocked_stretch(row, measure)
        raise Blocked(start, end)
    price, _, end = ways[0]
    start = 0
    ends = [end]
    while end < lines.last:
        start, end = end, rests[(start, end)][2]
        ends.append(end)
    return (price, tuple(ends))
