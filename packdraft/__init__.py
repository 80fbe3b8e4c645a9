"""Packs of cards, passed round a table."""
