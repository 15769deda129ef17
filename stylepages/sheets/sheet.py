"""Sheets: rows of rules, and the values that they give to the parts of a document."""

from stylepages.errors import BadPath, BadRule, TooLarge
from stylepages.sheets.properties import INHERITED, PROPERTIES, computed, initial_values
from stylepages.sheets.ranking import ranked
from stylepages.sheets.rules import read_rule, write_rule
from stylepages.sheets.selectors import matches


def _rule_of_line(line, number):
    try:
        return read_rule(line)
    except BadRule:
        raise BadRule(number) from None


class Sheet:
    """A row of rules, which never changes."""

    LIMIT = 12

    def __init__(self, rules):
        if len(rules) > Sheet.LIMIT:
            raise TooLarge()
        self._rules = tuple(rules)
        self._rankings = {name: ranked(rules, name) for name in PROPERTIES}

    @classmethod
    def read(cls, text):
        """Return the sheet whose written form the string is."""
        lines = text.split("\n") if text else []
        return cls([_rule_of_line(line, number) for number, line in enumerate(lines)])

    def text(self):
        """Return the written form of the sheet."""
        return "\n".join([write_rule(rule) for rule in self._rules])

    def __len__(self):
        return len(self._rules)

    def __getitem__(self, at):
        if not 0 <= at < len(self._rules):
            raise BadPath()
        return self._rules[at]

    def __iter__(self):
        return iter(self._rules)

    def __contains__(self, name):
        return len(self._rankings.get(name, ())) > 0

    def __add__(self, other):
        if not isinstance(other, Sheet):
            return NotImplemented
        return Sheet(self._rules + other._rules)

    def _hits(self, path):
        """Tell for each rule whether its selector matches the lineage."""
        return [matches(selector, path) for selector, _ in self._rules]

    def _first_hit(self, name, hits):
        """Return the numbers of the first winner of a property among the rules that match, or None."""
        for at, k in self._rankings.get(name, ()):
            if hits[at]:
                return (at, k)
        return None

    def _worth(self, at, k):
        """Return the value of a declaration."""
        return self._rules[at][1][k][1]

    def winner(self, path, name):
        """Return the numbers (rule, declaration) of the winner, or None."""
        return self._first_hit(name, self._hits(path))

    def declared(self, path):
        """Return the dict of the declared values of a lineage."""
        hits = self._hits(path)
        values = {}
        for name in PROPERTIES:
            found = self._first_hit(name, hits)
            if found is not None:
                values[name] = self._worth(found[0], found[1])
        return values

    def values_of(self, path):
        """Return the dict of the ten values of a lineage."""
        values = initial_values()
        for depth in range(1, len(path) + 1):
            values = computed(values, self.declared(path[:depth]))
        return values

    def origin(self, path, name):
        """Return (position, rule, declaration) of the declaration a value comes from, or None."""
        for position in range(len(path) - 1, -1, -1):
            found = self.winner(path[:position + 1], name)
            if found is None and name not in INHERITED:
                return None
            if found is not None and self._worth(found[0], found[1]) != "same":
                return (position, found[0], found[1])
        return None

    def with_rule(self, at, rule):
        """Return the sheet with the rule inserted as rule number `at`."""
        if not 0 <= at <= len(self._rules):
            raise BadPath()
        return Sheet(self._rules[:at] + (rule,) + self._rules[at:])

    def without_rule(self, at):
        """Return the sheet without rule number `at`."""
        if not 0 <= at < len(self._rules):
            raise BadPath()
        return Sheet(self._rules[:at] + self._rules[at + 1:])


def joined(*sheets):
    """Return the sheet with the rules of all the sheets, in order."""
    return Sheet([rule for sheet in sheets for rule in sheet])
