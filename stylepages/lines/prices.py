"""The prices of lines and of lines that follow one another, and the places of boxes."""

from stylepages.lines.glue import Glue


def ends_at_hyphen(row, end):
    """Tell whether a line that ends at this place ends at a hyphen."""
    widths, joints = row
    return 0 < end < len(widths) and joints[end - 1][0] == "hyphen"


def joint_glue(joint):
    """Return the glue of a joint between two boxes of one line."""
    if joint[0] == "gap":
        return Glue(joint[1], joint[2], joint[3])
    return Glue(-joint[2], 0, 0)


def hyphen_glue(row, end):
    """Return the glue of the hyphen at which a line ends, without width if it does not end at one."""
    return Glue(row[1][end - 1][1] if ends_at_hyphen(row, end) else 0, 0, 0)


def line_glue(row, start, end):
    """Return the glue of the line (start, end)."""
    widths, joints = row
    glue = hyphen_glue(row, end)
    for width in widths[start:end]:
        glue = glue + Glue(width, 0, 0)
    for joint in joints[start:end - 1]:
        glue = glue + joint_glue(joint)
    return glue


def _room(start, measure):
    return measure.width - measure.indent if start == 0 else measure.width


def _left_price(rest, room, is_last):
    if rest < 0:
        return None
    return 0 if is_last else 100 * rest * rest // (room * room)


def _both_price(rest, glue, is_last, loose):
    if rest < 0:
        return 100 * rest * rest // (glue.shrink * glue.shrink) if -rest <= glue.shrink else None
    if rest == 0 or is_last:
        return 0
    if rest > loose * glue.stretch:
        return None
    return 100 * rest * rest // (glue.stretch * glue.stretch)


def price_with_glue(row, start, end, measure, glue):
    """Return the price of the line (start, end), which has this glue, or None if it is not possible."""
    is_last = end == len(row[0])
    room = _room(start, measure)
    rest = room - glue.width
    if measure.align == "left":
        price = _left_price(rest, room, is_last)
    else:
        price = _both_price(rest, glue, is_last, measure.loose)
    if price is None or not ends_at_hyphen(row, end):
        return price
    return price + measure.hyphen


def line_price(row, start, end, measure):
    """Return the price of the line (start, end), or None if it is not possible."""
    return price_with_glue(row, start, end, measure, line_glue(row, start, end))


def _extra(rest, glue, stretch, shrink):
    """Return how far a box moves in a line of align both, behind gaps that together have this stretch and shrink."""
    if rest > 0:
        return rest * stretch // glue.stretch
    if rest < 0:
        return -(-rest * shrink // glue.shrink)
    return 0


def places_with_glue(row, start, end, measure, glue):
    """Return the list of the places of the boxes of the possible line (start, end), which has this glue."""
    widths, joints = row
    rest = _room(start, measure) - glue.width
    if measure.align == "left" or (rest > 0 and end == len(widths)):
        rest = 0
    plain = measure.indent if start == 0 else 0
    stretch = 0
    shrink = 0
    places = [plain]
    for at in range(start, end - 1):
        joint = joints[at]
        if joint[0] == "gap":
            plain = plain + widths[at] + joint[1]
            stretch = stretch + joint[2]
            shrink = shrink + joint[3]
        else:
            plain = plain + widths[at] - joint[2]
        places.append(plain + _extra(rest, glue, stretch, shrink))
    return places


def box_places(row, start, end, measure):
    """Return the list of the places of the boxes of the possible line (start, end)."""
    return places_with_glue(row, start, end, measure, line_glue(row, start, end))


def spans_between(row, start, places):
    """Return the list of the spans of the gaps between boxes at these places, the first of which is box `start`."""
    widths, joints = row
    spans = []
    for k in range(len(places) - 1):
        if joints[start + k][0] == "gap":
            spans.append((places[k] + widths[start + k], places[k + 1]))
    return spans


def gap_spans(row, start, end, measure):
    """Return the list of the spans of the gaps of the possible line (start, end)."""
    return spans_between(row, start, box_places(row, start, end, measure))


def overlap_often(before, behind, river):
    """Tell whether at least so many of the spans behind overlap at least one of the spans before."""
    many = 0
    at = 0
    for first, end in behind:
        # The spans of a line ascend, so one that ends where this one begins overlaps no later one.
        while at < len(before) and before[at][1] <= first:
            at += 1
        if at < len(before) and before[at][0] < end:
            many += 1
            if many >= river:
                return True
    return False


def twin_price(row, middle, end, measure):
    """Return what is added to the price of the line (middle, end) if it and a line before it end at hyphens."""
    return measure.twin if ends_at_hyphen(row, middle) and ends_at_hyphen(row, end) else 0


def pair_price(row, start, middle, end, measure):
    """Return the pair price of two possible lines, or None if they must not follow one another."""
    if measure.river > 0:
        before, behind = gap_spans(row, start, middle, measure), gap_spans(row, middle, end, measure)
        if overlap_often(before, behind, measure.river):
            return None
    return twin_price(row, middle, end, measure)
