"""Barredcrossings: in which order letters may be handed over."""
