"""Postmead: ropes between posts, and what every length is made of."""
