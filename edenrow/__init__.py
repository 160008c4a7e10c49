"""Edenrow: rows of cells without end, changed by local rules, exactly."""
