"""Paneworks: many spaces of pages over few frames."""
