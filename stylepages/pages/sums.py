"""The sums of what stands on the lines of a galley."""


def _running(numbers):
    """Return the list of the sums of the first 0, 1, 2 .. numbers."""
    sums = [0]
    for number in numbers:
        sums.append(sums[-1] + number)
    return sums


class Sums:
    """What the lines between two places of a galley, and the floats between two numbers, add up to."""

    def __init__(self, galley):
        self._cuts = [line[2] for line in galley]
        self._heights = _running([line[0] for line in galley])
        self._spaces = _running([line[1] for line in galley])
        self._notes = _running([sum(line[3]) for line in galley])
        self._many_notes = _running([len(line[3]) for line in galley])
        self._many_floats = _running([len(line[4]) for line in galley])
        self._floats = _running([height for line in galley for height in line[4]])

    def last_line(self):
        """Return the number of lines."""
        return len(self._cuts)

    def last_float(self):
        """Return the number of floats."""
        return len(self._floats) - 1

    def may_cut(self, line):
        """Tell whether a page or a column may end before this line."""
        return line == len(self._cuts) or self._cuts[line]

    def marked_before(self, line):
        """Return the number of floats whose mark lines are less than this line."""
        return self._many_floats[line]

    def lines_height(self, start, end):
        """Return the sum of the heights of the lines, without spaces."""
        return self._heights[end] - self._heights[start]

    def column_height(self, start, end):
        """Return the height of a column that has these lines."""
        if start == end:
            return 0
        return self.lines_height(start, end) + self._spaces[end] - self._spaces[start + 1]

    def notes_height(self, start, end, rule):
        """Return the height of the notes of the lines, with the rule above them if there are any."""
        if self._many_notes[start] == self._many_notes[end]:
            return 0
        return self._notes[end] - self._notes[start] + rule

    def floats_height(self, start, end, under):
        """Return the height of the floats, with what is left free under them if there are any."""
        if start == end:
            return 0
        return self._floats[end] - self._floats[start] + under
