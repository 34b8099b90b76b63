"""Answers that are kept while tables change."""
