"""The possible pages from a state."""

from stylepages.pages.sums import Sums


class Options:
    """The possible pages of one galley in one frame."""

    def __init__(self, galley, frame):
        self._sums = Sums(galley)
        self._frame = frame
        self._best = {}
        self.last_state = (self._sums.last_line(), self._sums.last_float(), ())

    def _least_floats_end(self, state, end):
        """Return how many floats have to be set behind a page, so that none waits too long."""
        _, floats, ages = state
        if self._frame.wait == 0:
            return self._sums.marked_before(end)
        return floats + max([k + 1 for k, age in enumerate(ages) if age >= self._frame.wait], default=0)

    def _page_ends(self, line):
        """Return the ends of pages that begin with this line, ascending."""
        ends = [line]
        for end in range(line + 1, self._sums.last_line() + 1):
            # Higher lines than all columns hold fit in no way, and more lines are no lower.
            if self._sums.lines_height(line, end) > self._frame.columns * self._frame.height:
                break
            if self._sums.may_cut(end):
                ends.append(end)
        return ends

    def _moves_to(self, state, end):
        """Return the ways on from a state with pages that end at this line."""
        line, floats, ages = state
        older = tuple([age + 1 for age in ages])
        pending_before, marked = self._sums.marked_before(line), self._sums.marked_before(end)
        free = self._frame.height - self._sums.notes_height(line, end, self._frame.rule)
        found = []
        for floats_end in range(self._least_floats_end(state, end), marked + 1):
            room = free - self._sums.floats_height(floats, floats_end, self._frame.under)
            # With more floats the room is even less.
            if room < 0:
                break
            if end > line or floats_end > floats:
                fresh = (1,) * (marked - max(floats_end, pending_before))
                found.append((end, floats_end, room, (end, floats_end, older[floats_end - floats:] + fresh)))
        return found

    def moves(self, state):
        """Return (end, floats_end, room, next_state) for each way on from a state that the columns may allow."""
        return [move for end in self._page_ends(state[0]) for move in self._moves_to(state, end)]

    def _splits(self, line, end):
        """Return the splits of the lines into columns, ascending."""
        if self._frame.columns == 1 or line == end:
            return [end]
        # A page ends only where a column may end, so the end of the page is among these.
        return [split for split in range(line + 1, end + 1) if self._sums.may_cut(split)]

    def _split_price(self, line, end, split, room, is_last):
        """Return the price of the columns of a page, or None if one is too high."""
        one, other = self._sums.column_height(line, split), self._sums.column_height(split, end)
        if max(one, other) > room:
            return None
        slack = 0 if is_last else room - max(one, other)
        if self._frame.columns == 1:
            return slack * slack
        return slack * slack + self._frame.uneven * abs(one - other)

    def split_prices(self, line, end, room, is_last):
        """Return the pairs (split, price) of the possible columns, without what pending floats cost."""
        rows = [(split, self._split_price(line, end, split, room, is_last)) for split in self._splits(line, end)]
        return [(split, price) for split, price in rows if price is not None]

    def late_price(self, state):
        """Return what the pending floats of the next state add to the price of a page."""
        return self._frame.late * len(state[2])

    def _best_split(self, line, end, room, is_last):
        """Return (price, split) of the cheapest columns, or None."""
        asked = (line, end, room, is_last)
        if asked not in self._best:
            rows = [(price, split) for split, price in self.split_prices(line, end, room, is_last)]
            self._best[asked] = min(rows) if rows else None
        return self._best[asked]

    def cheapest(self, state):
        """Return the possible pages from a state, of those that differ in the split alone the best one."""
        pages = []
        for end, floats_end, room, behind in self.moves(state):
            best = self._best_split(state[0], end, room, behind == self.last_state)
            if best is not None:
                price, split = best
                pages.append((end, floats_end, split, price + self.late_price(behind), behind))
        return pages


def page_options(galley, frame, state):
    """Return the list of the possible pages (end, floats_end, split, price, next_state) from the state."""
    options = Options(galley, frame)
    pages = []
    for end, floats_end, room, behind in options.moves(state):
        late = options.late_price(behind)
        for split, price in options.split_prices(state[0], end, room, behind == options.last_state):
            pages.append((end, floats_end, split, price + late, behind))
    return pages
