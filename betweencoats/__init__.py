"""Nets of stones in coats. Everything is imported from the file that defines it."""
