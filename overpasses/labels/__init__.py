"""True prices, slack ways and labels (Part 6)."""
