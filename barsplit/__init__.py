"""Barsplit: rows of rooms, taken apart into bars."""
