"""Anymeaning: programs alike whatever their deeds mean."""
