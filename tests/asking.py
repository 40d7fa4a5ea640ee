"""Asks the archive in calls, and takes its answers apart again."""

import unittest

from packedreadings.archive import answers

GAP = 2000000000
TOP = 1000000000
BEYOND = 10 ** 18


def clear(series):
    return [0, series]


def add(series, values):
    return [1, series, len(values)] + list(values)


def fix(series, place, value):
    return [2, series, place, value]


def get(series, place):
    return [3, series, place]


def was(series, place, n):
    return [4, series, place, n]


def sum_of(series, i, j):
    return [5, series, i, j]


def span(series, i, j):
    return [6, series, i, j]


def seek(series, i, x):
    return [7, series, i, x]


def coarse(series, n):
    return [8, series, n]


def sizes(series):
    return [9, series]


def block(series, b):
    return [10, series, b]


def unpack(row):
    return [11, len(row)] + list(row)


def load(series, row):
    return [12, series, len(row)] + list(row)


def codes(values):
    return [13, len(values)] + list(values)


def gamma(n):
    return [14, n]


def copy(series, other):
    return [15, series, other]


def differ(series, other, i):
    return [16, series, other, i]


def fill(series, other):
    return [17, series, other]


def trim(series, n):
    return [18, series, n]


def history(series, place):
    return [19, series, place]


def state():
    return [20]


def parted(told):
    """The flat list of answers as one list for each call."""
    parts = []
    at = 0
    while at < len(told):
        count = told[at]
        part = told[at + 1:at + 1 + count]
        if count < 1 or len(part) != count:
            raise AssertionError(f"no answer of {count} numbers at {at} in {told}")
        parts.append(part)
        at += 1 + count
    return parts


def ask(calls):
    """One answer for each call, all asked in one list of a new archive."""
    if not 1 <= len(calls) <= 100:
        raise AssertionError("a list holds from 1 to 100 calls")
    numbers = [number for call in calls for number in call]
    if len(numbers) > 16000:
        raise AssertionError("a list has at most 16000 numbers")
    told = parted(answers(numbers))
    if len(told) != len(calls):
        raise AssertionError(f"{len(told)} answers to {len(calls)} calls")
    return told


def last(calls):
    return ask(calls)[-1]


def adds(series, values):
    """The add calls that put any number of values behind a series."""
    return [add(series, values[k:k + 64]) for k in range(0, len(values), 64)]


def bytes_of(text):
    """Written bits, blanks left out, as bytes."""
    bits = text.replace(" ", "")
    bits += "0" * (-len(bits) % 8)
    return [int(bits[k:k + 8], 2) for k in range(0, len(bits), 8)]


def told_values(values):
    """A row of readings and gaps as it is answered."""
    row = [number for value in values for number in ((0, 0) if value == GAP else (1, value))]
    return [len(row)] + row


def probes():
    """Calls that show what is kept; the last ones change it, to show what the next change finds."""
    calls = [state()]
    for series in range(4):
        calls += [coarse(series, 1), sizes(series), history(series, 0), history(series, 2)]
        calls += [was(series, 0, 1), was(series, 0, 2), was(series, 2, 1)]
    for series in range(4):
        calls += [fix(series, 0, 987654321), add(series, [123456789])]
    return calls + [state()]


class Asking(unittest.TestCase):
    maxDiff = None

    def told(self, calls, expected):
        """The last call of the list is answered so."""
        self.assertEqual(last(calls), expected, calls)

    def refused(self, setup, call, refusal):
        """The call is refused so, and everything is behind it as before it."""
        with_call = ask(setup + [call] + probes())
        without = ask(setup + probes())
        self.assertEqual(with_call[len(setup)], [refusal], call)
        self.assertEqual(with_call[len(setup) + 1:], without[len(setup):], call)
