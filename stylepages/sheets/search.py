"""The search for the least lineage on which two sheets give a property two values."""

from stylepages.sheets.properties import INITIAL, value_of
from stylepages.sheets.ranking import ranked
from stylepages.sheets.selectors import step_fits


def chain_names(rules, name):
    """Return the properties on whose chains the value of a property depends."""
    ratios = [
        value
        for _, declarations in rules
        for declared, value, _ in declarations
        if declared == name and isinstance(value, tuple)
    ]
    if ratios and name != "size":
        return ("size", name)
    return (name,)


def rankings_of(sheet, names):
    """Return, for each property, the pairs (selector, value) of its declarations, the first winner first."""
    return [[(sheet[at][0], sheet[at][1][k][1]) for at, k in ranked(sheet, name)] for name in names]


def distinct(selectors):
    """Return the selectors without duplicates."""
    return list({selector: True for selector in selectors})


def telling_pairs(pairs, selectors):
    """Return (pair, fits) for the first pair of each kind of fits.

    The fits of a pair say for each step of each selector whether it fits the pair;
    pairs with equal fits can stand in each other's place.
    """
    chosen = {}
    for pair in pairs:
        fits = tuple([tuple([step_fits(step, pair) for step in selector]) for selector in selectors])
        if fits not in chosen:
            chosen[fits] = pair
    return [(pair, fits) for fits, pair in chosen.items()]


def no_progress(selectors):
    """Return the progress of the selectors before the first pair of a lineage."""
    return tuple([(False,) * (len(selector) - 1) for selector in selectors])


def advanced(selector, progress, fits):
    """Return the progress of a selector behind one more pair, and whether it matches there.

    The progress says for each step but the last one whether the next step may follow it:
    whether the step can stand on the last pair, or for the joint " " on any pair so far.
    """
    ended = [fits[0]] + [fits[k] and progress[k - 1] for k in range(1, len(selector))]
    open_steps = [
        ended[k] or (progress[k] and selector[k + 1][0] == " ") for k in range(len(selector) - 1)
    ]
    return tuple(open_steps), ended[-1]


class Search:
    """A search through the lineages of the given pairs, for one property."""

    def __init__(self, one, other, name, pairs):
        self._names = chain_names(list(one) + list(other), name)
        self._rankings = (rankings_of(one, self._names), rankings_of(other, self._names))
        self._selectors = distinct(
            [selector for rankings in self._rankings for rows in rankings for selector, _ in rows]
        )
        self._pairs = telling_pairs(pairs, self._selectors)
        self._moves = {}

    def _declared(self, rankings, hits):
        """Return the declared value of each property, or None where there is no winner."""
        found = []
        for rows in rankings:
            values = [value for selector, value in rows if selector in hits]
            found.append(values[0] if values else None)
        return tuple(found)

    def _new_move(self, progress, fits):
        rows = [
            advanced(selector, reached, fitting)
            for selector, reached, fitting in zip(self._selectors, progress, fits)
        ]
        hits = [selector for selector, (_, hit) in zip(self._selectors, rows) if hit]
        one, other = self._rankings
        return tuple([row[0] for row in rows]), self._declared(one, hits), self._declared(other, hits)

    def _move(self, progress, fits):
        """Return the progress behind one more pair, and the declared values that both sheets give there."""
        move = (progress, fits)
        if move not in self._moves:
            self._moves[move] = self._new_move(progress, fits)
        return self._moves[move]

    def _values(self, parents, declared):
        """Return the values of the properties behind one more pair."""
        values = []
        for at, name in enumerate(self._names):
            # A ratio of the size takes the parent's size, any other one the part's own size.
            size = values[0] if values else parents[0]
            values.append(value_of(name, declared[at], parents[at], size))
        return tuple(values)

    def least(self):
        """Return the least lineage on which the values of the property differ, or None."""
        start = (tuple([INITIAL[name] for name in self._names]), no_progress(self._selectors))
        seen = {start: True}
        rows = [((), start)]
        at = 0
        # Lineages are met in ascending order, so the first one that leads to a state is the least.
        while at < len(rows):
            path, (values, progress) = rows[at]
            at += 1
            for pair, fits in self._pairs:
                behind, one, other = self._move(progress, fits)
                left, right = self._values(values, one), self._values(values, other)
                if left[-1] != right[-1]:
                    return path + (pair,)
                # Where the sizes differ, the search for the size finds a lesser lineage.
                if left == right and (left, behind) not in seen:
                    seen[(left, behind)] = True
                    rows.append((path + (pair,), (left, behind)))
        return None
