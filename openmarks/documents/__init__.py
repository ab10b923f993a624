"""Documents as trees, and folded documents."""
