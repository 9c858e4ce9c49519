"""Measures: vessels, what is in them, and the riddle of measuring with them."""
