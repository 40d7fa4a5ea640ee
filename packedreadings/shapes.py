"""What each call takes: its numbers and rows in order, and their ranges."""

from packedreadings.gaps import GAP, is_reading

RANGES = {
    "series": (0, 3),
    "place": (0, 400),
    "correction count": (0, 100),
    "seek bound": (-2000000000, 2000000000),
    "piece length": (1, 96),
    "block number": (0, 30),
    "byte": (0, 255),
    "self-ending number": (1, 4294967296),
}

ROW_LENGTHS = {
    "values": (1, 64),
    "block values": (1, 16),
    "bytes": (0, 200),
}

ROW_MEMBERS = {
    "values": "value",
    "block values": "value",
    "bytes": "byte",
}

SHAPES = {
    0: ("series",),
    1: ("series", "values"),
    2: ("series", "place", "value"),
    3: ("series", "place"),
    4: ("series", "place", "correction count"),
    5: ("series", "place", "place"),
    6: ("series", "place", "place"),
    7: ("series", "place", "seek bound"),
    8: ("series", "piece length"),
    9: ("series",),
    10: ("series", "block number"),
    11: ("bytes",),
    12: ("series", "bytes"),
    13: ("block values",),
    14: ("self-ending number",),
    15: ("series", "series"),
    16: ("series", "series", "place"),
    17: ("series", "series"),
    18: ("series", "place"),
    19: ("series", "place"),
    20: (),
}


def shape_of(call_number):
    """The kinds of what stands behind a call's number, in order."""
    return SHAPES[call_number]


def is_row(kind):
    return kind in ROW_LENGTHS


def lies_within(number, bounds):
    return bounds[0] <= number and number <= bounds[1]


def number_fits(kind, number):
    if kind == "value":
        return number == GAP or is_reading(number)
    return lies_within(number, RANGES[kind])


def row_fits(kind, row):
    """Whether a row is as long as told, and each of its numbers in its range."""
    if not lies_within(len(row), ROW_LENGTHS[kind]):
        return False
    return all([number_fits(ROW_MEMBERS[kind], number) for number in row])


def fits(kind, given):
    """Whether one number or row that was given is as told for its kind."""
    if is_row(kind):
        return row_fits(kind, given)
    return number_fits(kind, given)


def all_fit(call_number, givens):
    """Whether all that was given with a call is as told for it."""
    kinds = shape_of(call_number)
    return all([fits(kinds[k], givens[k]) for k in range(len(kinds))])
