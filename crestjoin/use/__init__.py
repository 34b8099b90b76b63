"""Texts of values, and a bench that is told lines."""
