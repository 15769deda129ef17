"""Assignments of forms to references, and the search for a consistent one."""

from stylepages.errors import NoAssignment


def assignments(count, classes):
    """Yield all assignments for that many references, in ascending order."""
    rows = [()]
    for _ in range(count):
        rows = [row + (form,) for row in rows for form in (0,) + classes]
    yield from rows


def _is_consistent(assignment, verdict):
    return verdict == ("forms", assignment)


def settle(setter, count, classes):
    """Return (assignment, tried): the first consistent assignment, and those before it with their verdicts."""
    tried = []
    for assignment in assignments(count, classes):
        verdict = setter(assignment)
        if _is_consistent(assignment, verdict):
            return (assignment, tuple(tried))
        tried.append((assignment, verdict))
    raise NoAssignment(tuple(tried))


def all_consistent(setter, count, classes):
    """Return the list of all consistent assignments, in ascending order."""
    found = []
    for assignment in assignments(count, classes):
        if _is_consistent(assignment, setter(assignment)):
            found.append(assignment)
    return found


class Table:
    """A setter that is made from a dict of assignments and verdicts."""

    def __init__(self, verdicts):
        self._verdicts = {assignment: verdicts[assignment] for assignment in verdicts}

    def __call__(self, assignment):
        return self._verdicts.get(assignment, ("none",))
