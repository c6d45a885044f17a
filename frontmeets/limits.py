"""The limits of the package."""

MOST_HEIGHT = 999
MOST_PEOPLE = 40
MOST_LINES = 8
SMALL = 12
MOST_DEEDS = 1000
