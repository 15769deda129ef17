"""The desk: its edits and their written form."""
