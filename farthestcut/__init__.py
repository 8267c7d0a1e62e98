"""Farthestcut: ties taken away so that the way is longest."""
