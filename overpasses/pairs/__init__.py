"""Orders of the places of a net, and its pairs for an order (Part 2)."""
