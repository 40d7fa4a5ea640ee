"""The refusal -1: numbers just outside and just inside of what is told for them."""

import unittest

from tests.asking import (BEYOND, GAP, TOP, Asking, add, adds, ask, block, clear, coarse, codes, copy, differ, fill, fix,
                          gamma, get, history, load, seek, sizes, span, state, sum_of, trim, unpack, was)

SETUP = [add(0, [1, GAP, 3]), fix(0, 0, 4), add(1, [5, 6]), add(2, [7]), add(3, [8, 9, 10])]

SERIES = (0, 3)
PLACES = (0, 400)
BYTES = (0, 255)

# Each call with numbers that are accepted, and for each of its numbers its place in the call and its range.
CASES = (
    ("clear", clear(0), ((1, SERIES),)),
    ("add", add(0, [1, 2]), ((1, SERIES),)),
    ("fix", fix(0, 1, 9), ((1, SERIES), (2, PLACES))),
    ("get", get(0, 0), ((1, SERIES), (2, PLACES))),
    ("was", was(0, 0, 1), ((1, SERIES), (2, PLACES), (3, (0, 100)))),
    ("sum_of", sum_of(0, 0, 1), ((1, SERIES), (2, PLACES), (3, PLACES))),
    ("span", span(0, 0, 1), ((1, SERIES), (2, PLACES), (3, PLACES))),
    ("seek", seek(0, 0, 2), ((1, SERIES), (2, PLACES), (3, (-2 * TOP, 2 * TOP)))),
    ("coarse", coarse(0, 1), ((1, SERIES), (2, (1, 96)))),
    ("sizes", sizes(0), ((1, SERIES),)),
    ("block", block(0, 0), ((1, SERIES), (2, (0, 30)))),
    ("unpack", unpack([242, 60, 0]), ((2, BYTES), (3, BYTES), (4, BYTES))),
    ("load", load(0, [242, 60, 0]), ((1, SERIES), (3, BYTES), (4, BYTES), (5, BYTES))),
    ("codes", codes([1, 2, 3]), ((2, (-TOP, TOP)), (3, (-TOP, TOP)), (4, (-TOP, TOP)))),
    ("gamma", gamma(5), ((1, (1, 4294967296)),)),
    ("copy", copy(0, 1), ((1, SERIES), (2, SERIES))),
    ("differ", differ(0, 1, 0), ((1, SERIES), (2, SERIES), (3, PLACES))),
    ("fill", fill(0, 1), ((1, SERIES), (2, SERIES))),
    ("trim", trim(0, 1), ((1, SERIES), (2, PLACES))),
    ("history", history(0, 0), ((1, SERIES), (2, PLACES))),
    ("state", state(), ()),
)


def changed(call, at, number):
    return call[:at] + [number] + call[at + 1:]


class Ranges(Asking):
    def test_every_call_stands_here(self):
        self.assertEqual([call[0] for name, call, numbers in CASES], list(range(21)))

    def test_the_calls_are_accepted_as_they_stand(self):
        for name, call, numbers in CASES:
            self.assertEqual(ask(SETUP + [call])[-1][0], 0, name)

    def test_just_outside_and_far_outside(self):
        for name, call, numbers in CASES:
            for at, (low, high) in numbers:
                for number in (low - 1, high + 1, -BEYOND, BEYOND):
                    with self.subTest(call=name, at=at, number=number):
                        self.refused(SETUP, changed(call, at, number), -1)

    def test_just_inside(self):
        for name, call, numbers in CASES:
            for at, bounds in numbers:
                for number in bounds:
                    with self.subTest(call=name, at=at, number=number):
                        self.assertNotEqual(ask(SETUP + [changed(call, at, number)])[-1], [-1])

    def test_values_of_fix(self):
        for number in (TOP + 1, -TOP - 1, GAP - 1, GAP + 1, -GAP, BEYOND, -BEYOND):
            self.refused(SETUP, fix(0, 2, number), -1)
        for number in (TOP, -TOP, GAP, 0):
            self.assertEqual(ask(SETUP + [fix(0, 2, number)])[-1], [0, 2])

    def test_values_of_add(self):
        for number in (TOP + 1, -TOP - 1, GAP - 1, GAP + 1, -GAP, BEYOND, -BEYOND):
            self.refused(SETUP, add(1, [0, number]), -1)
        for number in (TOP, -TOP, GAP, 0):
            self.assertEqual(ask(SETUP + [add(1, [0, number])])[-1], [0, 4])

    def test_values_of_codes(self):
        for number in (TOP + 1, -TOP - 1, GAP - 1, GAP + 1, -GAP, BEYOND, -BEYOND):
            self.refused(SETUP, codes([0, number]), -1)
        for number in (TOP, -TOP, GAP, 0):
            self.assertEqual(ask(SETUP + [codes([0, number])])[-1][0], 0)

    def test_lengths_of_rows_of_bytes(self):
        for count in (201, 202, 249, 250):
            self.refused(SETUP, unpack([0] * count), -1)
            self.refused(SETUP, load(0, [0] * count), -1)
        for count, wrong in ((0, 1), (1, 1), (199, 3), (200, 3)):
            self.assertEqual(ask(SETUP + [unpack([0] * count)])[-1], [0, wrong])
            self.refused(SETUP, load(0, [0] * count), -3)

    def test_bytes_anywhere_in_a_row(self):
        for number in (-1, 256, GAP, BEYOND, -BEYOND):
            for at in (0, 1, 100, 199):
                row = [0] * at + [number] + [0] * (199 - at)
                self.refused(SETUP, unpack(row), -1)
                self.refused(SETUP, load(2, row), -1)
            self.refused(SETUP, unpack([number]), -1)
            self.refused(SETUP, load(2, [24, number]), -1)
        for number in (0, 255):
            self.assertEqual(ask(SETUP + [unpack([number])])[-1], [0, 1])
            self.refused(SETUP, load(2, [number]), -3)

    def test_lengths_of_rows_of_codes(self):
        for count in (0, 17, 63, 64, 65, 250):
            self.refused(SETUP, codes([1] * count), -1)
        for count in (1, 16):
            self.assertEqual(ask(SETUP + [codes([1] * count)])[-1][0], 0)

    def test_wrong_rows_end_where_their_counts_say(self):
        told = ask([unpack([0] * 201), codes([]), load(0, [0] * 250), unpack([300, 20, 20]), codes([1] * 17), state()])
        self.assertEqual(told, [[-1]] * 5 + [[0] * 9])

    def test_ahead_of_every_other_refusal_of_the_later_calls(self):
        full = SETUP + adds(1, [1] * 398)
        for call in (load(4, []), load(1, [256]), load(1, [0] * 201), load(-1, [24]), codes([GAP] * 17),
                     codes([GAP, GAP + 1]), copy(4, 4), copy(-1, -1), copy(BEYOND, BEYOND), differ(0, 0, 401),
                     fill(4, 4), fill(0, BEYOND), trim(4, 400), trim(0, 401), history(4, 400), history(0, 401),
                     history(-1, 0), trim(0, -1)):
            with self.subTest(call=call):
                self.refused(full, call, -1)

    def test_ahead_of_every_other_refusal(self):
        for call in (fix(4, 400, 5), fix(-1, 0, 4), get(4, 400), get(-1, 0), was(4, 400, 100), was(0, 400, 101),
                     was(0, 401, 100), sum_of(4, 3, 2), sum_of(0, 401, 2), sum_of(0, 2, 401), sum_of(0, 2, -1),
                     span(4, 3, 2), span(0, 401, 2), span(0, 0, 401), span(0, 2, -1), span(0, -1, -1),
                     seek(4, 400, 0), seek(0, 400, 2 * TOP + 1), seek(0, 401, 0), block(4, 30), block(0, 31)):
            with self.subTest(call=call):
                self.refused(SETUP, call, -1)

    def test_numbers_inside_but_not_there(self):
        for call in (get(0, 400), fix(0, 400, 5), was(0, 400, 100), sum_of(0, 400, 400), span(0, 400, 400),
                     seek(0, 400, -2 * TOP), block(0, 30), trim(0, 400), history(0, 400)):
            with self.subTest(call=call):
                self.refused(SETUP, call, -4)
        self.refused(SETUP, was(0, 0, 100), -6)
        self.refused(SETUP, seek(0, 0, 2 * TOP), -8)
        self.assertEqual(ask(SETUP + [coarse(0, 96)])[-1], [0, 0])


if __name__ == "__main__":
    unittest.main()
