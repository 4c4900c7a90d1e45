"""Stolenvoices: keys for a fixed number of voices, decided for all plays."""
