"""Towers, and how often answers must change."""
