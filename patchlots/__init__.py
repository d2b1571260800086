"""Patchlots: what lots of patches make, in whatever order."""
