"""Rankedrules: what follows whatever the rank of the rules is."""
