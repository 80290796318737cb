"""Texts for values, and a shell of commands."""
