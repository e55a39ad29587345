"""Eitherboth: words of two deeds, and the finite orders that live among them."""
