"""Relationladder: rows of sums in a few letters, their relations, the relations of these, and so on to the end."""
