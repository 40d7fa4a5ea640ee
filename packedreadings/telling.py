"""How values and rows are answered."""

from packedreadings.gaps import GAP


def told_value(value):
    """A reading or gap as two numbers."""
    if value == GAP:
        return [0, 0]
    return [1, value]


def told_values(values):
    numbers = []
    for value in values:
        numbers.extend(told_value(value))
    return numbers


def told_row(numbers):
    return [len(numbers)] + numbers
