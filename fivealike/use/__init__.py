"""Texts of webs, sentences and recipes, and a bench that is told lines."""
