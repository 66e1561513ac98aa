"""Lastingly: a house of things that wear."""
