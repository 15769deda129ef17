"""A plain reading of points 46 to 53, and drawn rows."""

from stylepages.lines.measure import Measure


def plain_hyphen_end(row, end):
    return end < len(row[0]) and row[1][end - 1][0] == "hyphen"


def plain_glue(row, start, end):
    """Point 47: (width, stretch, shrink)."""
    total = [sum(row[0][start:end]), 0, 0]
    for at in range(start, end - 1):
        joint = row[1][at]
        if joint[0] == "gap":
            total = [total[k] + joint[k + 1] for k in range(3)]
        else:
            total[0] -= joint[2]
    if plain_hyphen_end(row, end):
        total[0] += row[1][end - 1][1]
    return tuple(total)


def plain_rest(row, start, end, measure):
    room = measure.width - (measure.indent if start == 0 else 0)
    return room, room - plain_glue(row, start, end)[0]


def plain_price(row, start, end, measure):
    """Point 48, case by case."""
    _, stretch, shrink = plain_glue(row, start, end)
    room, rest = plain_rest(row, start, end, measure)
    last = end == len(row[0])
    price = None
    if measure.align == "both" and rest < 0 and -rest <= shrink:
        price = 100 * rest ** 2 // shrink ** 2
    elif measure.align == "both" and rest == 0:
        price = 0
    elif measure.align == "both" and rest > 0 and last:
        price = 0
    elif measure.align == "both" and rest > 0 and rest <= measure.loose * stretch:
        price = 100 * rest ** 2 // stretch ** 2
    elif measure.align == "left" and rest >= 0:
        price = 0 if last else 100 * rest ** 2 // room ** 2
    if price is not None and plain_hyphen_end(row, end):
        price += measure.hyphen
    return price


def plain_places(row, start, end, measure):
    """Point 49, box by box."""
    _, stretch, shrink = plain_glue(row, start, end)
    _, rest = plain_rest(row, start, end, measure)
    plain = measure.indent if start == 0 else 0
    stretches, shrinks, places = [], [], []
    for at in range(start, end):
        if measure.align == "both" and rest > 0 and end != len(row[0]):
            extra = rest * sum(stretches) // stretch
        elif measure.align == "both" and rest < 0:
            extra = -((-rest) * sum(shrinks) // shrink)
        else:
            extra = 0
        places.append(plain + extra)
        if at < end - 1:
            joint = row[1][at]
            plain += row[0][at] + (joint[1] if joint[0] == "gap" else -joint[2])
            if joint[0] == "gap":
                stretches.append(joint[2])
                shrinks.append(joint[3])
    return places


def plain_spans(row, start, end, measure):
    places = plain_places(row, start, end, measure)
    return [
        (places[k] + row[0][start + k], places[k + 1])
        for k in range(len(places) - 1) if row[1][start + k][0] == "gap"
    ]


def plain_pair(row, start, middle, end, measure):
    """Point 50."""
    count = 0
    for a, b in plain_spans(row, middle, end, measure):
        count += any(max(a, c) < min(b, d) for c, d in plain_spans(row, start, middle, measure))
    if measure.river != 0 and count >= measure.river:
        return None
    return measure.twin if plain_hyphen_end(row, middle) and plain_hyphen_end(row, end) else 0


class PlainRow:
    """A row with a measure, whose prices are remembered."""

    def __init__(self, row, measure):
        self.row, self.measure, self.many = row, measure, len(row[0])
        self.prices = {}
        for start in range(self.many):
            for end in range(start + 1, self.many + 1):
                price = plain_price(row, start, end, measure)
                if price is not None:
                    self.prices[(start, end)] = price
        self.pairs = {}

    def pair(self, start, middle, end):
        key = (start, middle, end)
        if key not in self.pairs:
            self.pairs[key] = plain_pair(self.row, start, middle, end, self.measure)
        return self.pairs[key]

    def chains(self, start):
        """Yield (ends, price) of all chains that begin at a place."""
        waiting = [((end,), price) for (place, end), price in self.prices.items() if place == start]
        while waiting:
            ends, price = waiting.pop()
            yield ends, price
            for end in range(ends[-1] + 1, self.many + 1):
                if (ends[-1], end) in self.prices:
                    pair = self.pair(([start] + list(ends))[-2], ends[-1], end)
                    if pair is not None:
                        waiting.append((ends + (end,), price + pair + self.prices[(ends[-1], end)]))

    def breaking(self):
        """Point 51, by trying all breakings; None if there is none."""
        found = [(price, len(ends), ends) for ends, price in self.chains(0) if ends[-1] == self.many]
        if self.many == 0:
            return (0, ())
        return (min(found)[0], min(found)[2]) if found else None

    def certificate(self):
        """Point 52, by trying all chains."""
        reached = {((0,) + ends)[-2:] for ends, _ in self.chains(0)}
        found = []
        for start, end in sorted(reached):
            own = self.prices[(start, end)]
            rests = [price - own for ends, price in self.chains(start) if ends[0] == end and ends[-1] == self.many]
            found.append((start, end, own, min(rests) if rests else None))
        return found

    def blocked(self):
        """Point 53, by trying all chains; None if no stretch is blocked."""
        covered = set()
        for first in range(self.many):
            for ends, _ in self.chains(first):
                covered.update((s, t) for s in range(first, ends[-1]) for t in range(s + 1, ends[-1] + 1))
        stretches = [(s, t) for s in range(self.many) for t in range(s + 1, self.many + 1)]
        left = [(t - s, s, t) for s, t in stretches if (s, t) not in covered]
        return min(left)[1:] if left else None


def random_row(source, many, widest=12):
    """Return a bare row of that many boxes."""
    widths = tuple(source.randint(1, widest) for _ in range(many))
    joints = []
    for k in range(many - 1):
        if source.random() < 0.35:
            joints.append(("hyphen", source.randint(1, 4), source.randint(0, min(widths[k], widths[k + 1], 4) - 1)))
        else:
            width = source.randint(1, 6)
            joints.append(("gap", width, source.randint(0, 5), source.randint(0, width - 1)))
    return (widths, tuple(joints))


def random_measure(source, widest=45, most_river=2):
    return Measure(
        source.randint(8, widest), indent=source.choice([0, 0, 3, 9]), align=source.choice(["both", "both", "left"]),
        hyphen=source.choice([0, 10, 50]), twin=source.choice([0, 5, 100]), river=source.randint(0, most_river),
        loose=source.choice([1, 2, 3, 9]),
    )
