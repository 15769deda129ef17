"""The breaking of a galley into pages, found from the end."""

from stylepages.errors import NoPages
from stylepages.pages.options import Options

START = (0, 0, ())


def reached_pages(options):
    """Return the dict from each state that can be reached to the pages from there that are worth taking."""
    waiting = [START]
    reached = {}
    while waiting:
        state = waiting.pop()
        if state not in reached:
            reached[state] = options.cheapest(state)
            waiting.extend([page[4] for page in reached[state] if page[4] not in reached])
    return reached


def how_far(state):
    """Return how many lines and floats are set; every page sets more."""
    return state[0] + state[1]


def _best_page(pages, rests):
    """Return (price, number of pages, page, next state) for the best way that begins with a page, or None."""
    ways = []
    for end, floats_end, split, price, behind in pages:
        if behind in rests:
            rest, many = rests[behind][0], rests[behind][1]
            ways.append((price + rest, many + 1, (end, floats_end, split), behind))
    return min(ways) if ways else None


def rests_from(reached, last_state):
    """Return the dict from each state that leads to the end to the best way from there.

    Each way is (price, number of pages, its first page, the state behind that page).
    """
    rests = {last_state: (0, 0, None, None)}
    for state in sorted(reached, key=how_far, reverse=True):
        way = _best_page(reached[state], rests)
        if way is not None:
            rests[state] = way
    return rests


def break_pages(galley, frame):
    """Return (price, pages) of the best pages."""
    options = Options(galley, frame)
    reached = reached_pages(options)
    rests = rests_from(reached, options.last_state)
    if START not in rests:
        raise NoPages(max([state[0] for state in reached]))
    pages = []
    state = START
    while state != options.last_state:
        (end, floats_end, split), behind = rests[state][2:]
        pages.append((state[0], end, state[1], floats_end, split))
        state = behind
    return (rests[START][0], tuple(pages))
