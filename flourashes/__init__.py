"""Flour stream blending under ash limits."""
