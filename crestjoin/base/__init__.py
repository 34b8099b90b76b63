"""Lots, letters, bounds and the checks that all other files share."""
