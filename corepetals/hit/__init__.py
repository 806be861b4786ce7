"""Rows of names that hit collections."""
