"""Strokes and outlines: the corners that they pass."""

LONGEST_LINE = 20
LARGEST_RADIUS = 12
LOWEST_START = -20
HIGHEST_START = 40
MOST_STROKES = 12


def is_stroke(stroke):
    """Tell whether a word and two numbers are a stroke."""
    word, dx, dy = stroke
    if word == "line":
        return 1 <= abs(dx) + abs(dy) and abs(dx) <= LONGEST_LINE and abs(dy) <= LONGEST_LINE
    return word in ("flat", "steep") and abs(dx) == abs(dy) and 1 <= abs(dx) <= LARGEST_RADIUS


def is_outline(outline):
    """Tell whether two numbers and a tuple of rows are an outline, closed or open."""
    x, y, strokes = outline
    if not LOWEST_START <= x <= HIGHEST_START or not LOWEST_START <= y <= HIGHEST_START:
        return False
    return 1 <= len(strokes) <= MOST_STROKES and all([is_stroke(stroke) for stroke in strokes])


def _sign(number):
    if number == 0:
        return 0
    return 1 if number > 0 else -1


def _line_steps(dx, dy):
    across = abs(dx)
    many = across + abs(dy)
    level, upright = (_sign(dx), 0), (0, _sign(dy))
    steps = []
    for k in range(many):
        goes_across = (k + 1) * across // many > k * across // many
        steps.append(level if goes_across else upright)
    return steps


def _first_is_nearer(a, b, radius):
    """Tell whether the first move of an arc leads at least as near to the circle as the second one."""
    by_first = abs(a * a + (b + 1) * (b + 1) - radius * radius)
    by_second = abs((a - 1) * (a - 1) + b * b - radius * radius)
    return by_first <= by_second


def _arc_steps(radius, first, second):
    a = radius
    b = 0
    steps = []
    while a > 0 or b < radius:
        if a == 0 or (b < radius and _first_is_nearer(a, b, radius)):
            steps.append(first)
            b += 1
        else:
            steps.append(second)
            a -= 1
    return steps


def unit_steps(stroke):
    """Return the list of the unit steps of the stroke."""
    word, dx, dy = stroke
    if word == "line":
        return _line_steps(dx, dy)
    level, upright = (_sign(dx), 0), (0, _sign(dy))
    if word == "flat":
        return _arc_steps(abs(dx), level, upright)
    return _arc_steps(abs(dx), upright, level)


def corners(outline):
    """Return the list of the corners of the outline, the first one and one behind every unit step."""
    x, y, strokes = outline
    found = [(x, y)]
    for stroke in strokes:
        for dx, dy in unit_steps(stroke):
            x = x + dx
            y = y + dy
            found.append((x, y))
    return found
