"""Edits of the prices of a net, and the mending of its filling (Part 4)."""
