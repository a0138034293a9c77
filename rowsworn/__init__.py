"""Rowsworn: endless rows that recurrences tell."""
