"""Holdsets: sets of places that hold a web."""
