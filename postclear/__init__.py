"""Settling between houses: statements, disputes, and the fewest payments."""
