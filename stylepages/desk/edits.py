"""The edits of a desk."""

from stylepages.tree.edits import independent

GROUPS = {
    "put": "document",
    "take": "document",
    "text": "document",
    "kind": "document",
    "marks": "document",
    "wrap": "document",
    "open": "document",
    "rule": "sheet",
    "unrule": "sheet",
    "letter": "faces",
    "kern": "faces",
    "set": "settings",
}


def independent_edits(first, second):
    """Tell whether two edits of a desk are independent by their form."""
    group = GROUPS[first[0]]
    if group != GROUPS[second[0]]:
        return True
    if group == "document":
        return independent(first, second)
    if group == "sheet":
        return False
    if group == "settings":
        return first[1] != second[1]
    # The word, the face, and the character or the pair; a letter edit never meets a kern edit.
    return first[:3] != second[:3]
