"""Pullstore: append-only logs that pull the first missing entry."""
