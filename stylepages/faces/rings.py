"""The outlines of the border of an ink."""

# For each side of a cell: where it begins, its unit step, and where the neighbouring cell lies.
SIDES = (
    ((0, 0), (1, 0), (0, -1)),
    ((1, 0), (0, 1), (1, 0)),
    ((1, 1), (-1, 0), (0, 1)),
    ((0, 1), (0, -1), (-1, 0)),
)


def _moved(corner, step):
    return (corner[0] + step[0], corner[1] + step[1])


def _border_sides(ink):
    """Return the dict from each corner to the list of the unit steps of the border that begin there."""
    sides = {}
    for cell in ink.cells():
        for start, step, beside in SIDES:
            if _moved(cell, beside) not in ink:
                sides.setdefault(_moved(cell, start), []).append(step)
    return sides


def _step_behind(steps, before):
    """Return the one of the steps at a corner that follows the step before."""
    to_the_left = (-before[1], before[0])
    return to_the_left if to_the_left in steps else steps[0]


def _ring(corner, step, sides):
    """Return the list of the sides (corner, step) of the ring that begins with this side."""
    first = (corner, step)
    ring = [first]
    corner = _moved(corner, step)
    step = _step_behind(sides[corner], step)
    while (corner, step) != first:
        ring.append((corner, step))
        corner = _moved(corner, step)
        step = _step_behind(sides[corner], step)
    return ring


def _strokes(steps):
    """Return the lines along one axis, each as long as possible, that have these unit steps."""
    lengths = []
    for step in steps:
        if lengths and lengths[-1][0] == step:
            lengths[-1] = (step, lengths[-1][1] + 1)
        else:
            lengths.append((step, 1))
    return tuple([("line", dx * length, dy * length) for (dx, dy), length in lengths])


def outlines_of(ink):
    """Return the tuple of the outlines of the ink."""
    sides = _border_sides(ink)
    walked = {}
    outlines = []
    # In this order the first corner of a ring that is met is the least one of the ring.
    for y, x in sorted([(y, x) for x, y in sides]):
        for step in sides[(x, y)]:
            if ((x, y), step) not in walked:
                ring = _ring((x, y), step, sides)
                for side in ring:
                    walked[side] = True
                outlines.append((x, y, _strokes([unit for _, unit in ring])))
    return tuple(outlines)
