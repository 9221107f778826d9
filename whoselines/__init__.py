"""Whose line is whose in a woven log."""
