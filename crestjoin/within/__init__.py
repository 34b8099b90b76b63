"""Rules within one another."""
