"""Texts of values."""
