"""The errors of the program; each named class stands directly under StyleError."""


class StyleError(ValueError):
    """Every error that the program raises."""


class BadDocument(StyleError):
    """A string is not the written form of a document."""


class BadPath(StyleError):
    """A path, or the place of a rule, leads nowhere; or an edit does not fit."""


class TooLarge(StyleError):
    """A document or a sheet would break a bound."""


class UnevenFigures(StyleError):
    """The figures of a face do not all have one advance."""


class NothingToUndo(StyleError):
    """A desk has no step that can be undone."""


class NothingToRedo(StyleError):
    """A desk has no step that can be redone."""


class BadRule(StyleError):
    """A line is not the written form of a rule."""

    def __init__(self, line):
        self.line = line


class BadEdit(StyleError):
    """A line is not the written form of a desk edit."""

    def __init__(self, line):
        self.line = line


class OpenOutline(StyleError):
    """An outline does not end where it begins."""

    def __init__(self, place):
        self.place = place


class MissingLetter(StyleError):
    """A face lacks a letter that every face must have."""

    def __init__(self, char):
        self.char = char


class BadLetter(StyleError):
    """The outlines of a letter are not all closed."""

    def __init__(self, char):
        self.char = char


class NoLetter(StyleError):
    """A face has no letter for a character."""

    def __init__(self, char):
        self.char = char


class BadSetting(StyleError):
    """A setting does not exist, or its value does not fit."""

    def __init__(self, name):
        self.name = name


class Blocked(StyleError):
    """A row of boxes cannot be broken into lines."""

    def __init__(self, start, end):
        self.start = start
        self.end = end


class NoPages(StyleError):
    """A galley cannot be broken into pages."""

    def __init__(self, lines):
        self.lines = lines


class NoAssignment(StyleError):
    """No assignment of forms to the references is consistent."""

    def __init__(self, tried):
        self.tried = tried


class Refused(StyleError):
    """An edit of a step cannot be done."""

    def __init__(self, index):
        self.index = index
