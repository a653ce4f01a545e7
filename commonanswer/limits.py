"""The limits within which systems, and what is asked of them, stay."""

MOST_UNKNOWNS = 3
MOST_ROWS = 6
MOST_NUMBER = 10 ** 4
MOST_COST = 1000
MOST_SEEN = 8
MOST_STEPS = 1000
MOST_CHANGES = 5
MOST_DEMANDS = 5
