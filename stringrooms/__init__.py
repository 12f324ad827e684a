"""Stringrooms: rooms of plans, told by strings and bands."""
