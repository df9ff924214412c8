"""Gridknot: knots and links on grids, with papers."""
