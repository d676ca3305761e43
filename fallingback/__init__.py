"""Fallingback: hands that keep points, and how far all go back when one falls."""
