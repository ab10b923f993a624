"""Path queries, patterns of paths, and the colours of documents."""
