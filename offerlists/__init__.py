"""Offerlists: waiting lists whose offers run out, for all histories."""
