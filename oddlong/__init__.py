"""Oddlong: rows of unlike length, told apart by their first signs."""
