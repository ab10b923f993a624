"""Openmarks: how many bookmarks a path query needs on a streamed document."""
