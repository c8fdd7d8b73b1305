"""Recut: one cloth cut straight and laid anew as another."""
