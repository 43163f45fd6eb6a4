"""Lines: recipes that glue just what has no sums, rows of bags, and points of any sign."""
