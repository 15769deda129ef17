"""What has changed between two results."""


def _pages_by_number(result):
    """Return the dict from each number to the list of the printed pages that have it."""
    found = {}
    if result[0] == "pages":
        for page in result[2]:
            found.setdefault(page[0], []).append(page)
    return found


def changed_pages(before, after):
    """Return the numbers of the pages that are not in both results alike, in ascending order."""
    one, other = _pages_by_number(before), _pages_by_number(after)
    numbers = sorted(set(list(one) + list(other)))
    return [number for number in numbers if one.get(number) != other.get(number)]
