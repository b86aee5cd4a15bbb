"""Ovalfield: a plane with few points, and its curves."""
