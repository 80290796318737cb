"""Logs the first events of which are final, and monitors of events with times."""
