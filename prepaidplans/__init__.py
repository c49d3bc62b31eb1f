"""Plans of work that may fail: see README.md."""
