"""Runs of text, references and marks."""


def is_letter_of_run(char):
    """Tell whether a character of a run is a letter."""
    return char not in (" ", "|")


def has_letters(runs):
    """Tell whether a reference, or a text with a letter, is among the runs."""
    for run in runs:
        if run[0] == "ref":
            return True
        if run[0] == "text" and any([is_letter_of_run(char) for char in run[1]]):
            return True
    return False


def _go_together(one, other):
    return one[0] == "text" and other[0] == "text" and one[2:] == other[2:]


def joined_runs(runs):
    """Return the tuple of the runs in which text runs of one size and face that stand side by side are one."""
    joined = []
    for run in runs:
        if joined and _go_together(joined[-1], run):
            joined[-1] = ("text", joined[-1][1] + run[1]) + run[2:]
        else:
            joined.append(run)
    return tuple(joined)
