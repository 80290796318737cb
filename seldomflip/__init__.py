"""Answers about logs whose events come late, changed as seldom as possible."""
