"""Anyshape: array programs judged for all sizes at once."""
