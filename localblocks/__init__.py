"""Localblocks: sequences as trees of small blocks that an edit hardly changes."""
