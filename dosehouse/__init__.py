"""Dosehouse: nothing is given beyond its bounds."""
