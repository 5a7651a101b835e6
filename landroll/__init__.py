"""Landroll: a floor of cells in plots, papers with two dates."""
