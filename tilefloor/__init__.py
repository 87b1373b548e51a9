"""Tilefloor: floors laid with stones of two squares."""
