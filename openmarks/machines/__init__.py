"""Machines with bookmarks."""
