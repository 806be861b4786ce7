"""Rows of words, and sets that meet in as many names."""
