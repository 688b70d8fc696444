"""Certificates of origin: issued, moved, used once."""
