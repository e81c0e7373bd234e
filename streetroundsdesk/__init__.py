"""Rounds walked: which streets to walk once more, the proof that it is the least, and the walk."""
