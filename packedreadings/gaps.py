"""How a gap is kept, and the readings beside it."""

# The number that stands for a gap in rows handed in; no reading is as great.
GAP = 2000000000


def readings_in(values):
    return [value for value in values if value != GAP]
