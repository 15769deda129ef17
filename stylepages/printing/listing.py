"""Listings of printed pages, one row for each set line."""


def _row(number, word, line):
    top, letters = line
    x = letters[0][0]
    signs = "".join([letter[1] for letter in letters])
    return f"{number:>4} {word:<6} {top:>5} {x:>5} {signs}"


def _rows_of_page(page):
    number, floats, columns, notes = page
    rows = []
    for word, groups in (("float", floats), ("column", columns), ("note", notes)):
        rows.extend([_row(number, word, line) for lines in groups for line in lines])
    return rows


class Listing:
    """A row for each set line of printed pages."""

    def __init__(self, pages):
        self._pages = tuple(pages)

    def many_pages(self):
        """Return the number of the pages."""
        return len(self._pages)

    def rows(self):
        """Return the list of the rows."""
        return [row for page in self._pages for row in _rows_of_page(page)]


class NumberedListing(Listing):
    """A listing with a number in front of each row."""

    def rows(self):
        """Return the list of the rows."""
        plain = super().rows()
        return [f"{number:>3}: {row}" for number, row in enumerate(plain, start=1)]


class HeadedListing(NumberedListing):
    """A numbered listing with a row in front of it that tells the number of pages."""

    def rows(self):
        """Return the list of the rows."""
        numbered = super().rows()
        return [f"pages: {self.many_pages()}"] + numbered
