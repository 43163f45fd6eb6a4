"""Twisted webs, which are alike and not the same."""
