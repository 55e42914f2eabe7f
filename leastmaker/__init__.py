"""Leastmaker: the least program that does what is wished, at every input."""
