"""Flows, plans led from them, and pieces of tables."""
