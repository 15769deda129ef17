"""The printed pages: how lines stand on them, how they are read and listed."""
