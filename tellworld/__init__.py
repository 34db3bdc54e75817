"""Tellworld: a world told by rules, for a player of words."""
