"""Logs and their patterns."""
