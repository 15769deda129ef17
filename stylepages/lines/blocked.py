"""The stretch of a row that no chain of lines covers."""

from stylepages.lines.possible import PossibleLines


def _farthest_behind(lines, start, place, ranked):
    """Return the farthest end of the chains that begin with the line (start, place).

    `ranked` has a pair (farthest end, end) for each line that begins at the place, the farthest first.
    """
    for farthest, end in ranked:
        if lines.may_follow(start, place, end):
            return farthest
    return place


def _farthest_ends(lines):
    """Return the list of the farthest ends of the chains that begin at each place, the place where there is none."""
    farthest = {}
    reached = []
    for place in range(lines.last, -1, -1):
        ranked = sorted([(farthest[(place, end)], end) for end in lines.ends(place)], reverse=True)
        reached.append(ranked[0][0] if ranked else place)
        for start in lines.starts(place):
            farthest[(start, place)] = _farthest_behind(lines, start, place, ranked)
    return reached[::-1]


def blocked_stretch(row, measure):
    """Return the pair (start, end) of the blocked stretch, or None if there is a breaking."""
    lines = PossibleLines(row, measure)
    reached = _farthest_ends(lines)
    if reached[0] == lines.last:
        return None
    stretches = []
    farthest = 0
    for start in range(lines.last):
        farthest = max(farthest, reached[start])
        if farthest < lines.last:
            stretches.append((farthest + 1 - start, start))
    length, start = min(stretches)
    return (start, start + length)
