"""Seekpress: packed texts that are sought, changed and mended."""
