"""Fivealike: graphs that nothing of a told strength can part."""
