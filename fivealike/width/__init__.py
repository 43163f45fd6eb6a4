"""Bags and brambles, and recipes that count along bags."""
