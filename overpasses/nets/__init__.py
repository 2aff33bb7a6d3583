"""Nets of places and links, and their texts (Part 1)."""
