"""The certificate of a galley: what still has to be paid from each state."""

from stylepages.pages.breaking import reached_pages, rests_from
from stylepages.pages.options import Options


def page_certificate(galley, frame):
    """Return the list of (line, floats, ages, rest) for all states that can be reached, in order."""
    options = Options(galley, frame)
    reached = reached_pages(options)
    rests = rests_from(reached, options.last_state)
    rows = []
    for state in sorted(reached):
        rest = rests[state][0] if state in rests else None
        rows.append(state + (rest,))
    return rows
