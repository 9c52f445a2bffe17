"""Pays by outcomes, for works that cannot be seen."""
