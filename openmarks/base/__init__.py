"""Labels, words, tags and streams."""
