"""Neithertells: two sets that no program present can decide from each other."""
