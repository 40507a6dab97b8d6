"""Spansay: sayings about the stretches of a run."""
