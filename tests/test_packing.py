"""sizes and block: the calls 9 and 10, and the bits of a block."""

import unittest

from packedreadings.archive import answers
from tests import model
from tests.asking import GAP, TOP, Asking, add, adds, ask, block, bytes_of, clear, fix, get, last, sizes


class Packed(Asking):
    def packs(self, values, text):
        """The block of the values has the written bits."""
        told = ask([add(0, values), block(0, 0), sizes(0)])
        expected = bytes_of(text)
        count = len(text.replace(" ", ""))
        self.assertEqual(told[1], [0, len(expected)] + expected, values)
        self.assertEqual(told[2], [0, count, 1, count], values)


class Examples(Packed):
    def test_the_one_reading_5(self):
        self.assertEqual(answers([1, 0, 1, 5, 10, 0, 0]), [2, 0, 1, 4, 0, 2, 4, 44])
        self.packs([5], "0000 0 10 0001011")

    def test_sixteen_times_7(self):
        self.told([add(0, [7] * 16), block(0, 0)], [0, 3, 242, 60, 0])
        self.packs([7] * 16, "1111 0 01 0001111 000000")

    def test_two_gaps(self):
        self.told([add(0, [GAP, GAP]), block(0, 0)], [0, 1, 24])
        self.packs([GAP, GAP], "0001 1 00")


class EachCode(Packed):
    def test_code_0(self):
        self.packs([5, -3, 7, -8], "0011 0 00 00100 1010 0101 1110 1111")
        self.packs([50], "0000 0 00 00111 1100100")

    def test_code_1(self):
        self.packs([0, 1000], "0001 0 01 1 001011 11111010000")
        self.packs([7, 7, 5, 5, 3], "0100 0 01 0001111 000010 00 11 00 11")

    def test_code_2(self):
        self.packs([0], "0000 0 10 1")
        self.packs([-1], "0000 0 10 010")
        self.packs([1], "0000 0 10 011")
        self.packs([10, 20, 30, 40], "0011 0 10 000010101 000010101 1 1")
        self.packs([10, 20, 31, 40], "0011 0 10 000010101 000010101 011 00100")

    def test_code_3(self):
        self.packs([2, 0], "0001 0 11 00101 1 1 1")
        self.packs([3, 3, 3, -1000, -1000], "0100 0 11 00111 011 000000000011111010000 010")
        self.packs([0] * 8 + [9] * 8, "1111 0 11 1 0001000 000010011 0001000")

    def test_a_reading_that_comes_again_begins_another_run(self):
        self.packs([90] * 6 + [0] * 4 + [90] * 6,
                   "1111 0 11 000000010110101 00110 1 00100 000000010110101 00110")


class Ties(Packed):
    def ties(self, values, tied, text):
        lengths = [len(coded) for coded in model.codes(values)]
        self.assertEqual([code for code in range(4) if lengths[code] == min(lengths)], tied)
        self.packs(values, text)

    def test_the_least_number_is_taken(self):
        self.ties([5, 100], [0, 1], "0001 0 00 01000 00001010 11001000")
        self.ties([-8], [0, 2], "0000 0 00 00100 1111")
        self.ties([0, -1, 0], [0, 3], "0010 0 00 00001 0 1 0")
        self.ties([0, -2, -1], [0, 1, 2], "0010 0 00 00010 00 11 01")
        self.ties([0, 50], [1, 2], "0001 0 01 1 000111 1100100")
        self.ties([0, -1, 2, 1], [1, 3], "0011 0 01 1 000011 001 110 001")
        self.ties([0, 1, -1, 2], [1, 2, 3], "0011 0 01 1 000011 010 011 110")
        self.ties([1, 0], [2, 3], "0001 0 10 011 010")


class Gaps(Packed):
    def test_in_front_in_the_midst_and_at_the_end(self):
        self.packs([GAP, 5], "0001 1 01 10 0001011")
        self.packs([5, GAP], "0001 1 10 10 0001011")
        self.packs([5, GAP, 5], "0010 1 101 10 0001011 1")
        self.packs([GAP, GAP, 5, -3, GAP, 7, -8, GAP], "0111 1 00110110 00 00100 1010 0101 1110 1111")

    def test_gaps_alone(self):
        self.packs([GAP], "0000 1 0")
        self.packs([GAP] * 15, "1110 1 000000000000000")
        self.packs([GAP] * 16, "1111 1 0000000000000000")

    def test_one_reading_among_fifteen_gaps(self):
        self.packs([GAP] * 15 + [5], "1111 1 0000000000000001 10 0001011")
        self.packs([5] + [GAP] * 15, "1111 1 1000000000000000 10 0001011")

    def test_a_run_goes_on_behind_a_gap(self):
        self.packs([3, 3, GAP, 3, -1000, -1000],
                   "0101 1 110111 11 00111 011 000000000011111010000 010")

    def test_a_step_goes_over_a_gap(self):
        self.packs([0, GAP, 1000], "0010 1 101 01 1 001011 11111010000")


class GreatReadings(Packed):
    def test_least_and_greatest_side_by_side(self):
        least = format(1999999999, "031b")
        greatest = format(2000000000, "031b")
        self.packs([-TOP, TOP], "0001 0 00 11111" + least + greatest)
        self.packs([TOP, -TOP], "0001 0 00 11111" + greatest + least)
        self.packs([-TOP, TOP] * 8, "1111 0 00 11111" + (least + greatest) * 8)

    def test_alone(self):
        self.packs([TOP], "0000 0 00 11111" + format(2000000000, "b"))
        self.packs([-TOP], "0000 0 00 11111" + format(1999999999, "b"))

    def test_in_runs(self):
        least = "0" * 30 + format(2000000000, "b")
        greatest = "0" * 30 + format(2000000001, "b")
        self.packs([-TOP] * 8 + [TOP] * 8, "1111 0 11" + least + "0001000" + greatest + "0001000")
        self.packs([TOP] * 16, "1111 0 01" + greatest + "000000")
        self.packs([-TOP] * 16, "1111 0 01" + least + "000000")

    def test_in_even_steps(self):
        values = [-TOP + 125000000 * k for k in range(16)]
        first = "0" * 30 + format(2000000000, "b")
        step = "0" * 27 + format(250000001, "b")
        self.packs(values, "1111 0 10" + first + step + "1" * 14)


class Blocks(Asking):
    def test_an_empty_series(self):
        self.told([sizes(0)], [0, 0, 0])
        for number in (0, 1, 24, 25, 30):
            self.refused([clear(0)], block(0, number), -4)

    def test_16_places_are_one_block(self):
        calls = [add(0, [7] * 16)]
        self.told(calls + [sizes(0)], [0, 20, 1, 20])
        self.refused(calls, block(0, 1), -4)

    def test_17_places_are_two(self):
        calls = [add(0, [7] * 16 + [5])]
        self.told(calls + [sizes(0)], [0, 34, 2, 20, 14])
        self.told(calls + [block(0, 0)], [0, 3, 242, 60, 0])
        self.told(calls + [block(0, 1)], [0, 2, 4, 44])
        self.refused(calls, block(0, 2), -4)
        self.refused(calls, block(0, 30), -4)

    def test_blocks_go_over_the_ends_of_rows(self):
        self.told([add(0, [7] * 10), add(0, [7] * 6 + [GAP]), add(0, [GAP]), block(0, 1)], [0, 1, 24])
        self.told([add(0, [7] * 10), add(0, [7] * 6 + [GAP]), add(0, [GAP]), sizes(0)], [0, 27, 2, 20, 7])

    def test_a_full_series_has_25_blocks(self):
        calls = adds(0, [7] * 400)
        self.told(calls + [sizes(0)], [0, 500, 25] + [20] * 25)
        self.told(calls + [block(0, 24)], [0, 3, 242, 60, 0])
        self.refused(calls, block(0, 25), -4)
        self.refused(calls, block(0, 30), -4)

    def test_each_block_of_a_long_series(self):
        values = [(k * k * 7919) % 1000 - 300 * (k // 50) for k in range(390)]
        told = ask(adds(0, values) + [block(0, number) for number in range(25)] + [sizes(0)])[7:]
        texts = [model.block_text(values[k:k + 16]) for k in range(0, 390, 16)]
        lengths = [len(text) for text in texts]
        self.assertEqual(told[-1], [0, sum(lengths), 25] + lengths)
        for number in range(25):
            expected = bytes_of(texts[number])
            self.assertEqual(told[number], [0, len(expected)] + expected)

    def test_as_the_series_is_now(self):
        calls = [add(0, [7] * 15 + [8] + [GAP] * 2), fix(0, 15, 7), fix(0, 17, 5), fix(0, 17, GAP)]
        self.told(calls + [block(0, 0)], [0, 3, 242, 60, 0])
        self.told(calls + [block(0, 1)], [0, 1, 24])
        self.told(calls + [sizes(0)], [0, 27, 2, 20, 7])

    def test_the_four_series_stand_apart(self):
        calls = [add(0, [5]), add(1, [7] * 16), add(2, [GAP, GAP])]
        told = ask(calls + [block(s, 0) for s in range(4)] + [sizes(s) for s in range(4)])[3:]
        self.assertEqual(told[:4], [[0, 2, 4, 44], [0, 3, 242, 60, 0], [0, 1, 24], [-4]])
        self.assertEqual(told[4:], [[0, 14, 1, 14], [0, 20, 1, 20], [0, 7, 1, 7], [0, 0, 0]])

    def test_asking_changes_nothing(self):
        told = ask([add(0, [5]), block(0, 0), sizes(0), block(0, 0), sizes(0), get(0, 0), add(0, [6])])
        self.assertEqual(told[1:3], told[3:5])
        self.assertEqual(told[5:], [[0, 1, 5], [0, 2]])

    def test_every_length_of_a_block(self):
        for count in range(1, 17):
            expected = model.block_bytes([k * k for k in range(count)])
            self.assertEqual(last([add(0, [k * k for k in range(count)]), block(0, 0)]), [0, len(expected)] + expected)


if __name__ == "__main__":
    unittest.main()
