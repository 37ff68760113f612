"""The limits of tracks, passes and calls."""

MOST_LENGTH = 10 ** 12
MOST_PASSES = 8
MOST_TOUCHES = 6
MOST_GLIDE = 100
MOST_ORDERED = 6
MOST_CHANGES = 6
MOST_WISHES = 6
