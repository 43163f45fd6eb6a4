"""One side alone: families of parts, and recipes that show that there is none."""
