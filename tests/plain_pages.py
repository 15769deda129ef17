"""A plain reading of points 54 to 60, and drawn galleys."""

from stylepages.pages.frame import Frame


def plain_floats(galley):
    """Return (height, mark line) of every float."""
    return [(height, at) for at, line in enumerate(galley) for height in line[4]]


def plain_column(galley, start, end):
    lines = galley[start:end]
    return sum(line[0] for line in lines) + sum(line[1] for line in lines[1:])


def plain_page(galley, frame, state, end, floats_end, split):
    """Point 58 for one page: (price, next state), or None if the page is not possible."""
    line, floats, ages = state
    stock = plain_floats(galley)
    many, last_float = len(galley), len(stock)
    if not (line <= end <= many and floats <= floats_end <= last_float):
        return None
    if (end, floats_end) == (line, floats):
        return None
    if any(mark >= end for _, mark in stock[floats:floats_end]):
        return None
    if line < end < many and not galley[end][2]:
        return None
    if frame.columns == 1 or end == line:
        if split != end:
            return None
    elif not line < split <= end or (split < end and not galley[split][2]):
        return None
    room = frame.height - sum(height for height, _ in stock[floats:floats_end])
    room -= frame.under if floats_end > floats else 0
    notes = [height for row in galley[line:end] for height in row[3]]
    room -= sum(notes) + (frame.rule if notes else 0)
    one, other = plain_column(galley, line, split), plain_column(galley, split, end)
    if room < 0 or one > room or other > room:
        return None
    behind = []
    for number, (_, mark) in enumerate(stock):
        if number >= floats_end and mark < end:
            behind.append(ages[number - floats] + 1 if mark < line else 1)
    if any(age > frame.wait for age in behind):
        return None
    after = (end, floats_end, tuple(behind))
    slack = 0 if after == (many, last_float, ()) else room - max(one, other)
    price = slack * slack + frame.late * len(behind)
    return price + (frame.uneven * abs(one - other) if frame.columns == 2 else 0), after


def plain_options(galley, frame, state):
    """All possible pages from a state, by trying all triples."""
    found = []
    for end in range(state[0], len(galley) + 1):
        for floats_end in range(state[1], len(plain_floats(galley)) + 1):
            for split in range(state[0], end + 1):
                page = plain_page(galley, frame, state, end, floats_end, split)
                if page is not None:
                    found.append((end, floats_end, split, page[0], page[1]))
    return found


class PlainPages:
    """All rows of pages of one galley in one frame."""

    def __init__(self, galley, frame):
        self.last = (len(galley), len(plain_floats(galley)), ())
        self.options = {}
        waiting = [(0, 0, ())]
        while waiting:
            state = waiting.pop()
            if state not in self.options:
                self.options[state] = plain_options(galley, frame, state)
                waiting += [page[4] for page in self.options[state]]

    def rows(self, start=(0, 0, ())):
        """Yield (price, pages, triples) of all rows of pages that lead from a state to the end state."""
        waiting = [(start, 0, (), ())]
        while waiting:
            state, total, pages, triples = waiting.pop()
            if state == self.last:
                yield total, pages, triples
            for end, floats_end, split, price, behind in self.options[state]:
                page = (state[0], end, state[1], floats_end, split)
                waiting.append((behind, total + price, pages + (page,), triples + ((end, floats_end, split),)))

    def best(self):
        """Point 60: (price, pages), or the greatest line that can be reached."""
        best = None
        for total, pages, triples in self.rows():
            rank = (total, len(pages), triples)
            if best is None or rank < best[0]:
                best = (rank, pages)
        if best is None:
            return max(state[0] for state in self.options)
        return (best[0][0], best[1])

    def certificate(self):
        """Point 61, by trying all rows of pages from each state."""
        found = []
        for state in sorted(self.options):
            rests = [price for price, _, _ in self.rows(state)]
            found.append(state + (min(rests) if rests else None,))
        return found


def random_galley(source, many, floats, tallest=12):
    """Return a galley of that many lines and floats."""
    places = [source.randrange(many) for _ in range(floats)] if many else []
    return tuple(
        (
            source.randint(1, tallest), source.choice([0, 0, 3, 9]), source.random() < 0.75,
            tuple(source.randint(1, 8) for _ in range(source.choice([0, 0, 0, 1, 2]))),
            tuple(source.randint(1, 15) for _ in range(places.count(at))),
        )
        for at in range(many)
    )


def random_frame(source, tallest=50):
    return Frame(
        source.randint(8, tallest), columns=source.randint(1, 2), rule=source.choice([0, 2, 4]),
        under=source.choice([0, 3, 4]), wait=source.randint(0, 3), late=source.choice([0, 5, 50]),
        uneven=source.choice([0, 1, 7]),
    )
