"""The refusal -1: numbers just outside and just inside of what is told for them."""

import unittest

from tests.asking import (BEYOND, GAP, TOP, Asking, add, ask, block, clear, coarse, fix, get, seek, sizes, span,
                          sum_of, was)

SETUP = [add(0, [1, GAP, 3]), fix(0, 0, 4), add(1, [5, 6]), add(2, [7]), add(3, [8, 9, 10])]

SERIES = (0, 3)
PLACES = (0, 400)

# Each call with numbers that are accepted, and for each of its numbers its place in the call and its range.
CASES = (
    ("clear", clear(0), ((1, SERIES),)),
    ("add", add(0, [1, 2]), ((1, SERIES),)),
    ("fix", fix(0, 1, 9), ((1, SERIES), (2, PLACES))),
    ("get", get(0, 0), ((1, SERIES), (2, PLACES))),
    ("was", was(0, 0, 1), ((1, SERIES), (2, PLACES), (3, (0, 100)))),
    ("sum_of", sum_of(0, 0, 1), ((1, SERIES), (2, PLACES), (3, PLACES))),
    ("span", span(0, 0, 1), ((1, SERIES), (2, PLACES), (3, PLACES))),
    ("seek", seek(0, 0, 2), ((1, SERIES), (2, PLACES), (3, (-2 * TOP, 2 * TOP)))),
    ("coarse", coarse(0, 1), ((1, SERIES), (2, (1, 96)))),
    ("sizes", sizes(0), ((1, SERIES),)),
    ("block", block(0, 0), ((1, SERIES), (2, (0, 30)))),
)


def changed(call, at, number):
    return call[:at] + [number] + call[at + 1:]


class Ranges(Asking):
    def test_the_calls_are_accepted_as_they_stand(self):
        for name, call, numbers in CASES:
            self.assertEqual(ask(SETUP + [call])[-1][0], 0, name)

    def test_just_outside_and_far_outside(self):
        for name, call, numbers in CASES:
            for at, (low, high) in numbers:
                for number in (low - 1, high + 1, -BEYOND, BEYOND):
                    with self.subTest(call=name, at=at, number=number):
                        self.refused(SETUP, changed(call, at, number), -1)

    def test_just_inside(self):
        for name, call, numbers in CASES:
            for at, bounds in numbers:
                for number in bounds:
                    with self.subTest(call=name, at=at, number=number):
                        self.assertNotEqual(ask(SETUP + [changed(call, at, number)])[-1], [-1])

    def test_values_of_fix(self):
        for number in (TOP + 1, -TOP - 1, GAP - 1, GAP + 1, -GAP, BEYOND, -BEYOND):
            self.refused(SETUP, fix(0, 2, number), -1)
        for number in (TOP, -TOP, GAP, 0):
            self.assertEqual(ask(SETUP + [fix(0, 2, number)])[-1], [0, 2])

    def test_values_of_add(self):
        for number in (TOP + 1, -TOP - 1, GAP - 1, GAP + 1, -GAP, BEYOND, -BEYOND):
            self.refused(SETUP, add(1, [0, number]), -1)
        for number in (TOP, -TOP, GAP, 0):
            self.assertEqual(ask(SETUP + [add(1, [0, number])])[-1], [0, 4])

    def test_ahead_of_every_other_refusal(self):
        for call in (fix(4, 400, 5), fix(-1, 0, 4), get(4, 400), get(-1, 0), was(4, 400, 100), was(0, 400, 101),
                     was(0, 401, 100), sum_of(4, 3, 2), sum_of(0, 401, 2), sum_of(0, 2, 401), sum_of(0, 2, -1),
                     span(4, 3, 2), span(0, 401, 2), span(0, 0, 401), span(0, 2, -1), span(0, -1, -1),
                     seek(4, 400, 0), seek(0, 400, 2 * TOP + 1), seek(0, 401, 0), block(4, 30), block(0, 31)):
            with self.subTest(call=call):
                self.refused(SETUP, call, -1)

    def test_numbers_inside_but_not_there(self):
        for call in (get(0, 400), fix(0, 400, 5), was(0, 400, 100), sum_of(0, 400, 400), span(0, 400, 400),
                     seek(0, 400, -2 * TOP), block(0, 30)):
            with self.subTest(call=call):
                self.refused(SETUP, call, -4)
        self.refused(SETUP, was(0, 0, 100), -6)
        self.refused(SETUP, seek(0, 0, 2 * TOP), -8)
        self.assertEqual(ask(SETUP + [coarse(0, 96)])[-1], [0, 0])


if __name__ == "__main__":
    unittest.main()
