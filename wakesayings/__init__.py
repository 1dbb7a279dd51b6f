"""Wakesayings: sayings for all x that wake one another."""
