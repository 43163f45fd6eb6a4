"""Width and depth at once: forests of patterns."""
