"""Makerlines: half-made things in chains of calls."""
