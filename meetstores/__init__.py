"""Stores that come alike over a bad line, by few numbers."""
