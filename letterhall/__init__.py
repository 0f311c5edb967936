"""Letterhall: letters between houses, from the writing to the box."""
