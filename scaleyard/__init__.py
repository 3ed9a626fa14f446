"""Scaleyard: bounds on sums, points that keep them, and weights that show why not."""
