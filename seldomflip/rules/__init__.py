"""Rules about patterns, and their judges."""
