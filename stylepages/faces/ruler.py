"""The measures of words."""


class Ruler:
    """Measures words in one face."""

    def __init__(self, face):
        self._face = face

    def __call__(self, word, size=1):
        advances = [self._face.advance(char) for char in word]
        amounts = [self._face.nearer(a, b) for a, b in zip(word, word[1:])]
        return size * (sum(advances) - sum(amounts))
