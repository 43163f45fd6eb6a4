"""Whether webs are the same up to the names of their points, and what patterns tell of this."""
