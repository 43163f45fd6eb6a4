"""The counting game of a keeper and a spoiler."""
