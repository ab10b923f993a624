"""Gaps between states, and the number of bookmarks that they call for."""
