"""Bounds that are reached."""
