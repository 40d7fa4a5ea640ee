"""load: the call 12."""

import unittest

from tests import model
from tests.asking import (GAP, TOP, Asking, add, adds, ask, block, clear, coarse, differ, fix, get, history, load,
                          state, told_values, was)

# Bytes that are wrong in each of the four ways, the fewest that lack among them.
WRONG = ([], [4], [4, 0, 0, 0, 0, 0], [4, 45], [24, 0], [0, 0])


class Load(Asking):
    def test_the_wrong_rows_are_wrong_in_each_way(self):
        found = []
        for row in WRONG:
            with self.assertRaises(model.Wrong) as caught:
                model.read(row)
            found.append(caught.exception.number)
        self.assertEqual(found, [1, 1, 2, 3, 3, 4])

    def test_behind_an_empty_series(self):
        for series in range(4):
            told = ask([load(series, [4, 44]), load(series, [24]), coarse(series, 1), state()])
            counts = [0] * 8
            counts[2 * series] = 3
            self.assertEqual(told, [[0, 1], [0, 3], [0, 6, 1, 5, 0, 0, 0, 0], [0] + counts])

    def test_behind_what_the_series_has(self):
        told = ask([add(1, [9, GAP]), load(1, [242, 60, 0]), add(1, [3]), coarse(1, 1)])
        self.assertEqual(told[1:], [[0, 18], [0, 19], [0] + told_values([9, GAP] + [7] * 16 + [3])])

    def test_behind_a_series_with_corrections(self):
        told = ask([add(0, [1, 2]), fix(0, 0, 8), fix(0, 1, GAP), load(0, [24]), coarse(0, 1), was(0, 2, 0),
                    was(0, 0, 0), history(0, 1), history(0, 3), fix(0, 3, 4), state()])
        self.assertEqual(told[3:], [[0, 4], [0, 8, 1, 8, 0, 0, 0, 0, 0, 0], [0, 0, 0], [0, 1, 1],
                                    [0, 4, 1, 2, 0, 0], [0, 2, 0, 0], [0, 3], [0, 4, 3, 0, 0, 0, 0, 0, 0]])

    def test_what_block_gave_in_each_code(self):
        for values in ([5, -3, 7, -8], [7] * 16, [10, 20, 30, 40, GAP, 50], [3, 3, 3, -1000, -1000], [TOP, GAP, -TOP]):
            row = ask([add(0, values), block(0, 0)])[1][2:]
            told = ask([add(0, values), load(3, row), differ(0, 3, 0), load(3, row), differ(0, 3, 0)])
            self.assertEqual(told[1:], [[0, len(values)], [0, -1], [0, 2 * len(values)], [0, len(values)]])

    def test_something_wrong_with_the_bytes(self):
        for row in WRONG:
            self.refused([clear(0)], load(0, row), -3)
            self.refused([add(0, [1, 2, 3]), fix(0, 2, 5)], load(0, row), -3)
        self.refused([add(0, [1])], load(0, [0] * 200), -3)

    def test_exactly_400_places_and_one_more(self):
        sixteen = [242, 60, 0]
        told = ask(adds(2, [1] * 384) + [load(2, sixteen), get(2, 399), load(2, [5])])
        self.assertEqual(told[-3:], [[0, 400], [0, 1, 7], [-5]])
        self.refused(adds(2, [1] * 385), load(2, sixteen), -5)
        self.refused(adds(2, [1] * 399), load(2, [24]), -5)
        self.refused(adds(2, [1] * 400), load(2, [8]), -5)
        self.told(adds(2, [1] * 399) + [load(2, [24]), load(2, [8])], [0, 400])

    def test_25_blocks_of_sixteen(self):
        told = ask([load(1, [242, 60, 0]) for k in range(26)] + [state()])
        self.assertEqual(told, [[0, 16 * (k + 1)] for k in range(25)] + [[-5], [0, 0, 0, 400, 0, 0, 0, 0, 0]])

    def test_wrong_bytes_are_told_ahead_of_full(self):
        for row in WRONG:
            self.refused(adds(0, [1] * 400), load(0, row), -3)

    def test_not_as_told_is_told_ahead_of_both(self):
        full = adds(0, [1] * 400)
        for row in ([256], [4, -1], [0] * 201, [242, 60, 256]):
            self.refused(full, load(0, row), -1)
            self.refused([add(0, [1])], load(0, row), -1)
        self.refused(full, load(4, [24]), -1)
        self.refused(full, load(-1, []), -1)

    def test_loaded_rows_stand_apart(self):
        told = ask([load(0, [24]), load(1, [24]), fix(0, 0, 5), get(1, 0), load(1, [4, 44]), state()])
        self.assertEqual(told[3:], [[0, 0, 0], [0, 3], [0, 2, 1, 3, 0, 0, 0, 0, 0]])


if __name__ == "__main__":
    unittest.main()
