"""Lackstretch: numbers without told stretches of figures."""
