"""Causebook: books of causes, reckoned exactly with whole numbers."""
