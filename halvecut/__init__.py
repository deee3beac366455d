"""Halvecut: dots in the plane, parted fairly."""
