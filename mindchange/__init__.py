"""Mindchange: what is held, how firmly, and how it turns."""
