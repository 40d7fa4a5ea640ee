"""What each call takes: its numbers and rows in order, and their ranges."""

from packedreadings.gaps import GAP

RANGES = {
    "series": (0, 3),
    "place": (0, 400),
    "reading": (-1000000000, 1000000000),
    "correction count": (0, 100),
    "seek bound": (-2000000000, 2000000000),
    "piece length": (1, 96),
    "block number": (0, 30),
}

ROW_LENGTHS = {
    "values": (1, 64),
}

SHAPES = {
    0: ("series",),
    1: ("series", "values"),
    2: ("series", "place", "value"),
    3: ("series", "place"),
    4: ("series", "place", "correction count"),
    5: ("series", "place", "place"),
    6: ("series", "place", "place"),
    7: ("series", "place", "seek bound"),
    8: ("series", "piece length"),
    9: ("series",),
    10: ("series", "block number"),
}


def shape_of(call_number):
    """The kinds of what stands behind a call's number, in order."""
    return SHAPES[call_number]


def is_row(kind):
    return kind in ROW_LENGTHS


def lies_within(number, bounds):
    return bounds[0] <= number and number <= bounds[1]


def is_value(number):
    return number == GAP or lies_within(number, RANGES["reading"])


def row_fits(kind, row):
    """Whether a row is as long as told, and each of its numbers in its range."""
    if not lies_within(len(row), ROW_LENGTHS[kind]):
        return False
    return all([is_value(number) for number in row])


def fits(kind, given):
    """Whether one number or row that was given is as told for its kind."""
    if is_row(kind):
        return row_fits(kind, given)
    if kind == "value":
        return is_value(given)
    return lies_within(given, RANGES[kind])


def all_fit(call_number, givens):
    """Whether all that was given with a call is as told for it."""
    kinds = shape_of(call_number)
    return all([fits(kinds[k], givens[k]) for k in range(len(kinds))])
