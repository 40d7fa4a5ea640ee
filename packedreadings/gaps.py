"""How a gap is kept, and the readings beside it."""

LEAST_READING = -1000000000
GREATEST_READING = 1000000000

# The number that stands for a gap in rows handed in; no reading is as great.
GAP = 2000000000


def is_reading(number):
    return LEAST_READING <= number and number <= GREATEST_READING


def readings_in(values):
    return [value for value in values if value != GAP]
