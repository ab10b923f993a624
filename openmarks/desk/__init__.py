"""A desk that keeps named queries."""
