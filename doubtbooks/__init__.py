"""Doubtbooks: which ways of committing together end alike, whoever falls."""
