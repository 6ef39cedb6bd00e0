"""The greatest numbers that the parts of the package allow."""

MOST_BASE = 4
MOST_SIGNS = 4
MOST_HANDED = 3
MOST_ROWS = 4
MOST_KNOTS = 8
MOST_PARTS = 3
MOST_DROP = 9
MOST_EXCHANGES = 6
MOST_MEMBER = 1000
MOST_STEP = 12
