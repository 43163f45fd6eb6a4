"""Webs, their rows and atoms, and the maps between them."""
