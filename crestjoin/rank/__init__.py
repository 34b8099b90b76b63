"""Ranks on lots."""
