"""The whole setting: settings, trials of assignments, and printed pages."""
