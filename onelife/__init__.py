"""Onelife: a machine that may be put back to any earlier moment and lives once."""
