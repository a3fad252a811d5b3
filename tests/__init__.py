"""The tests of anymeaning."""
