"""Cleandress: files dressed on the way out, cleaned on the way in."""
