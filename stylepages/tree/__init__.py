"""The tree: the parts of a document, their edits and their written form."""
