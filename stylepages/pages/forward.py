"""The breaking of a galley into pages, found from the beginning."""

from stylepages.errors import NoPages
from stylepages.pages.breaking import START, how_far, reached_pages
from stylepages.pages.options import Options


def _ways_to(reached):
    """Return the dict from each state to the best way to it.

    Each way is (price, number of pages, triples of the pages). No page leads
    to a state that stands before another one in the order of `how_far`.
    """
    ways = {START: (0, 0, ())}
    for state in sorted(reached, key=how_far):
        price, many, triples = ways[state]
        for end, floats_end, split, cost, behind in reached[state]:
            way = (price + cost, many + 1, triples + ((end, floats_end, split),))
            if behind not in ways or way < ways[behind]:
                ways[behind] = way
    return ways


def _counts_to(reached):
    """Return the dict from each state to the least number of pages that lead to it."""
    counts = {START: 0}
    for state in sorted(reached, key=how_far):
        for page in reached[state]:
            many = counts[state] + 1
            counts[page[4]] = min(many, counts.get(page[4], many))
    return counts


def _pages_of(triples):
    """Return the tuple of the pages, each with the line and the float at which it begins."""
    pages = []
    line, floats = 0, 0
    for end, floats_end, split in triples:
        pages.append((line, end, floats, floats_end, split))
        line, floats = end, floats_end
    return tuple(pages)


def pages_forward(galley, frame):
    """Return (price, pages) of the best pages."""
    options = Options(galley, frame)
    reached = reached_pages(options)
    if options.last_state not in reached:
        raise NoPages(max([state[0] for state in reached]))
    price, _, triples = _ways_to(reached)[options.last_state]
    return (price, _pages_of(triples))


def fewest_pages(galley, frame):
    """Return the least number of pages that set the whole galley."""
    options = Options(galley, frame)
    reached = reached_pages(options)
    if options.last_state not in reached:
        raise NoPages(max([state[0] for state in reached]))
    return _counts_to(reached)[options.last_state]
