"""Bagwood: places joined by ties, and trees of bags."""
