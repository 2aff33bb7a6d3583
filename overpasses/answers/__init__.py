"""Answers by the filling of a net, their roads and their papers (Part 5)."""
