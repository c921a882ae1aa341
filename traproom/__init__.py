"""Traproom: shows that are safe for all timings."""
