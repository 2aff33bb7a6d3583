"""The next best roads, and answers with turns (Part 7)."""
