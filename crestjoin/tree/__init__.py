"""Webs of lots, and trees over them."""
