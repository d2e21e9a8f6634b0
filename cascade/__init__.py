"""Cascade: a machine taken apart into a row of simple ones."""
