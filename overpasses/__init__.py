"""Overpasses: planning roads whose prices change."""
