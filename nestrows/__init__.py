"""Nestrows: rows of rows made flat."""
