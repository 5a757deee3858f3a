"""Balepress: rows of numbers pressed in blocks, with checks, as they come."""
