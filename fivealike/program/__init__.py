"""The mixed program: its partials and sums, its points, and the multipliers that bar it."""
