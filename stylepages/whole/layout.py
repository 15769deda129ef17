"""What the trial of an assignment leads to."""


class Block:
    """A paragraph, a note or a float that is broken into lines."""

    def __init__(self, style, pieces, breaks):
        self.style = style
        self.pieces = pieces
        self.breaks = breaks

    def lead(self):
        """Return the height of a line."""
        return self.style[2]

    def whole_height(self):
        """Return the height of all lines, without spaces around them."""
        return len(self.breaks) * self.lead()

    def spans_of_lines(self):
        """Return the list of the pairs (start, end) of the lines."""
        return list(zip((0,) + self.breaks, self.breaks))

    def marks_of_lines(self):
        """Return the list of the lists of the marks of each line."""
        boxes = self.pieces[0]
        return [[mark for box in boxes[start:end] for mark in box[2]] for start, end in self.spans_of_lines()]


class Layout:
    """The blocks that one trial has broken and the pages that it has made, or its fault."""

    def __init__(self):
        self.fault = None
        self.blocks = {"paragraph": [], "note": [], "float": []}
        self.galley = ()
        self.pages = ()

    def heights_of_asides(self):
        """Return the dict from the mark of each note and float to its height."""
        heights = {}
        for sort in ("note", "float"):
            for number, block in enumerate(self.blocks[sort]):
                heights[(sort, number)] = block.whole_height()
        return heights

    def marks_of_galley(self):
        """Return the list of the lists of the marks of each line of the galley."""
        return [marks for block in self.blocks["paragraph"] for marks in block.marks_of_lines()]

    def pages_of_marks(self, first):
        """Return the dict from each mark to the number of its page; `first` is the number of the first page."""
        marks = self.marks_of_galley()
        numbers = {}
        for at, page in enumerate(self.pages):
            for line in range(page[0], page[1]):
                for mark in marks[line]:
                    numbers[mark] = first + at
        return numbers
