"""Daytellings: tellings of who was where."""
