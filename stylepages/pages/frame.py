"""The frame that pages are made in."""


class Frame:
    """A height and how pages fill it, which never change."""

    def __init__(self, height, *, columns=1, rule=4, under=4, wait=1, late=50, uneven=1):
        self.height = height
        self.columns = columns
        self.rule = rule
        self.under = under
        self.wait = wait
        self.late = late
        self.uneven = uneven

    @staticmethod
    def of(key):
        """Return the frame that has this key."""
        height, columns, rule, under, wait, late, uneven = key
        return Frame(height, columns=columns, rule=rule, under=under, wait=wait, late=late, uneven=uneven)

    def key(self):
        """Return the tuple of the seven fields."""
        return (self.height, self.columns, self.rule, self.under, self.wait, self.late, self.uneven)
