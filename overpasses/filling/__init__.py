"""The filled-in prices of the pairs of a net, and their roads (Part 3)."""
