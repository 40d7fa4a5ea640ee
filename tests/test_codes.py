"""codes and gamma: the calls 13 and 14."""

import unittest

from tests import model
from tests.asking import BEYOND, GAP, TOP, Asking, add, ask, codes, gamma, last, sizes, state


class Codes(Asking):
    def test_the_examples(self):
        self.told([codes([5])], [0, 2, 9, 13, 7, 8])
        self.told([codes([7] * 16)], [0, 1, 69, 13, 22, 16])

    def test_each_code(self):
        self.told([codes([5, -3, 7, -8])], [0, 0, 21, 28, 38, 32])
        self.told([codes([0, 1000])], [0, 1, 27, 18, 22, 24])
        self.told([codes([10, 20, 30, 40])], [0, 2, 33, 30, 20, 48])
        self.told([codes([3, 3, 3, -1000, -1000])], [0, 3, 60, 55, 49, 32])

    def test_one_reading(self):
        self.told([codes([0])], [0, 2, 5, 7, 1, 2])
        self.told([codes([-1])], [0, 2, 6, 9, 3, 4])
        self.told([codes([TOP])], [0, 0, 36, 67, 61, 62])
        self.told([codes([-TOP])], [0, 0, 36, 67, 61, 62])

    def test_gaps_among_the_readings_count_for_nothing(self):
        for values in ([5], [3, 3, 3, -1000, -1000], [10, 20, 30, 40], [TOP, -TOP]):
            expected = last([codes(values)])
            for at in range(len(values) + 1):
                self.told([codes(values[:at] + [GAP] + values[at:])], expected)
            self.told([codes([GAP] * 5 + values + [GAP] * 6)], expected)
        self.told([codes([7] * 8 + [GAP] + [7] * 7)], last([codes([7] * 15)]))

    def test_gaps_alone(self):
        for count in (1, 2, 15, 16):
            self.refused([add(0, [1])], codes([GAP] * count), -8)

    def test_ties(self):
        self.told([codes([5, 100])], [0, 0, 21, 21, 22, 24])
        self.told([codes([-8])], [0, 0, 9, 15, 9, 10])
        self.told([codes([1, 0])], [0, 2, 9, 10, 6, 6])
        for values, tied in (([5, 100], [0, 1]), ([-8], [0, 2]), ([0, -1, 0], [0, 3]), ([0, -2, -1], [0, 1, 2]),
                             ([0, 50], [1, 2]), ([0, -1, 2, 1], [1, 3]), ([0, 1, -1, 2], [1, 2, 3]), ([1, 0], [2, 3])):
            told = last([codes(values)])
            self.assertEqual([code for code in range(4) if told[2 + code] == min(told[2:])], tied)
            self.assertEqual(told[:2], [0, tied[0]])

    def test_least_and_greatest_side_by_side(self):
        self.told([codes([-TOP, TOP])], [0, 0, 5 + 62, 61 + 6 + 32, 61 + 63, 61 + 1 + 61 + 1])
        self.told([codes([TOP, -TOP])], [0, 0, 5 + 62, 61 + 6 + 32, 61 + 63, 61 + 1 + 61 + 1])
        self.told([codes([-TOP, TOP] * 8)], [0, 0, 5 + 16 * 31, 61 + 6 + 15 * 32, 61 + 63 + 14 * 65, 16 * 62])

    def test_rows_of_1_and_of_16(self):
        for count in range(1, 17):
            values = [k * k - 20 for k in range(count)]
            texts = model.codes(values)
            self.told([codes(values)], [0, model.chosen(values)] + [len(text) for text in texts])

    def test_rows_too_short_or_too_long(self):
        for count in (0, 17, 18, 64, 65, 250):
            self.refused([add(0, [1])], codes([1] * count), -1)
            self.refused([add(0, [1])], codes([GAP] * count), -1)

    def test_numbers_that_are_no_values(self):
        for wrong in (TOP + 1, -TOP - 1, GAP - 1, GAP + 1, -GAP, BEYOND, -BEYOND):
            for row in ([wrong], [wrong, 1], [1, wrong], [GAP, wrong], [GAP] * 15 + [wrong], [1] * 15 + [wrong]):
                self.refused([add(0, [1])], codes(row), -1)

    def test_as_many_bits_as_the_block_has(self):
        for values in ([5, -3, 7, -8], [7] * 16, [10, 20, 30, 40], [3, 3, 3, -1000, -1000]):
            told = ask([codes(values), add(0, values), sizes(0)])
            self.assertEqual(told[2][1], 4 + 1 + 2 + told[0][2 + told[0][1]])

    def test_nothing_is_kept_of_it(self):
        told = ask([codes([5]), state(), codes([7] * 16), codes([5])])
        self.assertEqual([told[1], told[3]], [[0] * 9, told[0]])


class Gamma(Asking):
    def test_small_numbers(self):
        self.told([gamma(1)], [0, 1, 1])
        self.told([gamma(2)], [0, 3, 0, 1, 0])
        self.told([gamma(3)], [0, 3, 0, 1, 1])
        self.told([gamma(4)], [0, 5, 0, 0, 1, 0, 0])
        self.told([gamma(5)], [0, 5, 0, 0, 1, 0, 1])
        self.told([gamma(8)], [0, 7, 0, 0, 0, 1, 0, 0, 0])

    def test_the_greatest_numbers(self):
        self.told([gamma(4294967295)], [0, 63] + [0] * 31 + [1] * 32)
        self.told([gamma(4294967296)], [0, 65] + [0] * 32 + [1] + [0] * 32)
        self.told([gamma(2147483648)], [0, 63] + [0] * 31 + [1] + [0] * 31)

    def test_every_width(self):
        for k in range(1, 33):
            for n in (2 ** k - 1, 2 ** k, min(2 ** k + 1, 2 ** 32)):
                bits = [int(bit) for bit in model.gamma(n)]
                self.told([gamma(n)], [0, len(bits)] + bits)

    def test_out_of_its_range(self):
        for n in (0, -1, 4294967297, BEYOND, -BEYOND):
            self.refused([add(0, [1])], gamma(n), -1)


if __name__ == "__main__":
    unittest.main()
