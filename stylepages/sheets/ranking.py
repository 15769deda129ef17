"""The order in which declarations of one property win."""

from stylepages.sheets.selectors import weight_of


def ranked(rules, name):
    """Return the pairs (rule, declaration) of numbers of the declarations of a property.

    Of the declarations whose selectors match a lineage, the first one wins.
    """
    rows = []
    for at, (selector, declarations) in enumerate(rules):
        for k, (declared, _, strong) in enumerate(declarations):
            if declared == name:
                rows.append((strong, weight_of(selector), at, k))
    return [(at, k) for strong, weight, at, k in sorted(rows, reverse=True)]
