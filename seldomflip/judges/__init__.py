"""Judges, and answers to histories."""
