"""Lanepacks: rows of a small machine led over to packs of lanes."""
