"""Linear programs, by integers alone."""
