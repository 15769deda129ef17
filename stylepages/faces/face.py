"""Faces: letters, and how near they come to one another."""

from stylepages.errors import BadLetter, MissingLetter, NoLetter, OpenOutline, UnevenFigures
from stylepages.faces.ink import ink_of
from stylepages.faces.letters import LETTER_CHARACTERS
from stylepages.numerals import FIGURES


def _ink_of_letter(char, letter):
    try:
        return ink_of(letter[1])
    except OpenOutline as e:
        raise BadLetter(char) from e


def _row_ends(ink):
    """Return the dict from each y that has cells to the left and the right end of the row."""
    return {y: (spans[0][0], spans[-1][1]) for y, spans in ink.spans()}


class Face:
    """Letters, a space and kerns, which never change."""

    REQUIRED = "0123456789-"

    def __init__(self, letters, *, space=(4, 2, 1), want=1, most=2, kerns=None):
        self._letters = {char: letters[char] for char in sorted(letters)}
        self._space = space
        self._want = want
        self._most = most
        self._kerns = {} if kerns is None else {pair: kerns[pair] for pair in sorted(kerns)}
        for char in Face.REQUIRED:
            if char not in self._letters:
                raise MissingLetter(char)
        if len({self._letters[char][0] for char in FIGURES}) > 1:
            raise UnevenFigures()
        self._inks = {char: _ink_of_letter(char, letter) for char, letter in self._letters.items()}
        self._ends = {char: _row_ends(ink) for char, ink in self._inks.items()}

    @staticmethod
    def of(data):
        """Return the face that has this plain data."""
        letters, space, want, most, kerns = data
        return Face(
            {char: (advance, outlines) for char, advance, outlines in letters},
            space=space,
            want=want,
            most=most,
            kerns={pair: amount for pair, amount in kerns},
        )

    @staticmethod
    def even(advance):
        """Return the face whose letters all have this advance and no ink."""
        letters = {char: (advance, ()) for char in LETTER_CHARACTERS}
        return Face(letters, space=(advance, advance, advance // 2), want=0, most=0)

    def __contains__(self, char):
        return char in self._letters

    def __len__(self):
        return len(self._letters)

    def __iter__(self):
        return iter(self._letters)

    @property
    def space(self):
        """The width, the stretch and the shrink of the space."""
        return self._space

    def _need(self, char):
        if char not in self._letters:
            raise NoLetter(char)

    def letter_or_none(self, char):
        """Return the letter of the character, or None."""
        return self._letters.get(char)

    def kern_or_none(self, pair):
        """Return the amount of the kern of the pair, or None."""
        return self._kerns.get(pair)

    def advance(self, char):
        """Return the advance of the letter."""
        self._need(char)
        return self._letters[char][0]

    def ink(self, char):
        """Return the ink of the letter."""
        self._need(char)
        return self._inks[char]

    def _least_gap(self, a, b):
        """Return (gap, y) of the closest row of two letters, or None."""
        left, right = self._ends[a], self._ends[b]
        gaps = [(self._letters[a][0] - left[y][1] + right[y][0], y) for y in left if y in right]
        return min(gaps) if gaps else None

    def _free_amount(self, a, b):
        """Return the amount for two letters that the advances do not limit."""
        if a + b in self._kerns:
            return self._kerns[a + b]
        least = self._least_gap(a, b)
        if least is None:
            return 0
        return max(0, min(self._most, least[0] - self._want))

    def nearer(self, a, b):
        """Return the amount by which two letters that stand side by side come nearer."""
        limit = min(self.advance(a), self.advance(b)) - 1
        if a in FIGURES or b in FIGURES:
            return 0
        return min(limit, self._free_amount(a, b))

    def closest_row(self, a, b):
        """Return the least y of the rows in which two letters are closest, or None."""
        self._need(a)
        self._need(b)
        least = self._least_gap(a, b)
        return None if least is None else least[1]

    def _like(self, letters, kerns):
        """Return the face with these letters and kerns, and all else as in this one."""
        return Face(letters, space=self._space, want=self._want, most=self._most, kerns=kerns)

    def changed(self, char, letter):
        """Return the face with this letter for the character, or with none if the letter is None."""
        letters = {told: kept for told, kept in self._letters.items() if told != char}
        if letter is not None:
            letters[char] = letter
        return self._like(letters, self._kerns)

    def with_kern(self, pair, amount):
        """Return the face with this kern for the pair, or with none if the amount is None."""
        kerns = {told: kept for told, kept in self._kerns.items() if told != pair}
        if amount is not None:
            kerns[pair] = amount
        return self._like(self._letters, kerns)

    def data(self):
        """Return the plain data of the face."""
        letters = tuple([(char, letter[0], letter[1]) for char, letter in self._letters.items()])
        return (letters, self._space, self._want, self._most, tuple(self._kerns.items()))
