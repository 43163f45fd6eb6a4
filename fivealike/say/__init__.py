"""Sentences with few names, and those that part webs."""
