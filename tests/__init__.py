"""The tests of the package onelife."""
