"""Rightage: things made only of things of the right age."""
