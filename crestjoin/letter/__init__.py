"""Answers that are searched letter by letter."""
