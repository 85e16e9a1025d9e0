"""Greyhall: memory that is swept while it is used."""
