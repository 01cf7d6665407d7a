"""Ladderhall: least answers of rising rules."""
