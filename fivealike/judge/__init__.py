"""The checker of papers: it only counts, adds, multiplies and compares."""
