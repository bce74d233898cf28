"""Twinwires: wires that are up and down at once, told by two machines."""
