"""Partsmith: a score for several players cut into parts."""
