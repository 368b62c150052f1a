"""Signbook: tables of whole numbers whose squares all come to -1, 0 or 1."""
