"""Dresses, cleaners and histories as texts."""
