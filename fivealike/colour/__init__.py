"""Rounds of names for rows, and what is alike by them."""
