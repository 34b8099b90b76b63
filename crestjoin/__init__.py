"""Crestjoin: what joins can come to, and plans led from papers."""
