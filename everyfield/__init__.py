"""Everyfield: numbers, matrices, points and lines over every field at once."""
