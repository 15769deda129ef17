"""The lines: rows of boxes and how they are broken."""
