"""Turned copies of the whole grid of space, and the points they share."""
