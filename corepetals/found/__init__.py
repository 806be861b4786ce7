"""Flowers found in a collection."""
