"""Touchpasses: rows of passes that write the curve of a fader."""
