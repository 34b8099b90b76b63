"""Covers and packings of lots."""
