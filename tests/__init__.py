"""The tests of cleandress."""
