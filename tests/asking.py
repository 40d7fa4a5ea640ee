"""Asks the archive in calls, and takes its answers apart again."""

import unittest

from packedreadings.archive import answers

GAP = 2000000000
TOP = 1000000000
BEYOND = 10 ** 18


def clear(series):
    return [0, series]


def add(series, values):
    return [1, series, len(values)] + list(values)


def fix(series, place, value):
    return [2, series, place, value]


def get(series, place):
    return [3, series, place]


def was(series, place, n):
    return [4, series, place, n]


def sum_of(series, i, j):
    return [5, series, i, j]


def span(series, i, j):
    return [6, series, i, j]


def seek(series, i, x):
    return [7, series, i, x]


def coarse(series, n):
    return [8, series, n]


def sizes(series):
    return [9, series]


def block(series, b):
    return [10, series, b]


def parted(told):
    """The flat list of answers as one list for each call."""
    parts = []
    at = 0
    while at < len(told):
        count = told[at]
        part = told[at + 1:at + 1 + count]
        if count < 1 or len(part) != count:
            raise AssertionError(f"no answer of {count} numbers at {at} in {told}")
        parts.append(part)
        at += 1 + count
    return parts


def ask(calls):
    """One answer for each call, all asked in one list of a new archive."""
    if not 1 <= len(calls) <= 100:
        raise AssertionError("a list holds from 1 to 100 calls")
    told = parted(answers([number for call in calls for number in call]))
    if len(told) != len(calls):
        raise AssertionError(f"{len(told)} answers to {len(calls)} calls")
    return told


def last(calls):
    return ask(calls)[-1]


def adds(series, values):
    """The add calls that put any number of values behind a series."""
    return [add(series, values[k:k + 64]) for k in range(0, len(values), 64)]


def bytes_of(text):
    """Written bits, blanks left out, as bytes."""
    bits = text.replace(" ", "")
    bits += "0" * (-len(bits) % 8)
    return [int(bits[k:k + 8], 2) for k in range(0, len(bits), 8)]


def probes():
    """Calls that show the whole state; the last ones change it to tell the counts."""
    calls = []
    for series in range(4):
        calls.append(coarse(series, 1))
        calls.append(sizes(series))
        for n in range(4):
            calls.append(was(series, 0, n))
            calls.append(was(series, 2, n))
    for series in range(4):
        calls.append(fix(series, 0, 987654321))
        calls.append(add(series, [123456789]))
        calls.append(clear(series))
    return calls


class Asking(unittest.TestCase):
    maxDiff = None

    def told(self, calls, expected):
        """The last call of the list is answered so."""
        self.assertEqual(last(calls), expected, calls)

    def refused(self, setup, call, refusal):
        """The call is refused so, and everything is behind it as before it."""
        with_call = ask(setup + [call] + probes())
        without = ask(setup + probes())
        self.assertEqual(with_call[len(setup)], [refusal], call)
        self.assertEqual(with_call[len(setup) + 1:], without[len(setup):], call)
