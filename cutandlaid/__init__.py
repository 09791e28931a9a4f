"""Figures that are cut into pieces and laid again as other figures, in exact numbers."""
