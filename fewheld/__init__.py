"""Fewheld: how many readings of a row must be held at once, for all rows."""
