"""Evenodds: orders with ranks, stretches with as many even things as odd, and chain counts in two letters."""
