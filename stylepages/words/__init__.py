"""The words: the flow of a document, its resolved runs and their pieces."""
