"""unpack: the call 11, and what may be wrong with bytes that are read as a block."""

import itertools
import unittest

from tests import model
from tests.asking import GAP, TOP, Asking, add, ask, block, bytes_of, fix, last, state, told_values, unpack


def whole(text):
    """Written bits that fill their bytes, so that none are left."""
    if len(text.replace(" ", "")) % 8:
        raise AssertionError(f"these are no whole bytes: {text}")
    return bytes_of(text)


def head(count, code):
    """What stands ahead of the readings of a block without gaps."""
    return model.binary(count - 1, 4) + "0" + model.binary(code, 2)


def in_code(code, readings):
    """A block without gaps in some code, the readings in their range or not."""
    coded = (model.code0, model.code1, model.code2, model.code3)[code]
    return head(len(readings), code) + coded(readings)


def first_number(v):
    """A reading as a self-ending number."""
    return model.gamma(model.fold(v) + 1)


class Unpacked(Asking):
    def answers(self, row, expected):
        self.assertEqual(last([unpack(row)]), expected, row)

    def wrong(self, text, number):
        """Written bits, filled up with zero bits, are wrong so."""
        self.answers(bytes_of(text), [0, number])

    def wrong_at_its_end(self, text, number):
        """Written bits that end with their last byte are wrong so."""
        self.answers(whole(text), [0, number])

    def right(self, text, values):
        self.answers(bytes_of(text), [0, 0] + told_values(values))


class Right(Unpacked):
    def test_the_examples(self):
        self.answers([4, 44], [0, 0, 2, 1, 5])
        self.answers([242, 60, 0], [0, 0, 32] + [1, 7] * 16)
        self.answers([24], [0, 0, 4, 0, 0, 0, 0])

    def test_code_0(self):
        self.right("0011 0 00 00100 1010 0101 1110 1111", [5, -3, 7, -8])
        self.right("0000 0 00 00111 1100100", [50])

    def test_code_1(self):
        self.right("0001 0 01 1 001011 11111010000", [0, 1000])
        self.right("0100 0 01 0001111 000010 00 11 00 11", [7, 7, 5, 5, 3])

    def test_code_2(self):
        self.right("0000 0 10 1", [0])
        self.right("0000 0 10 010", [-1])
        self.right("0000 0 10 011", [1])
        self.right("0011 0 10 000010101 000010101 1 1", [10, 20, 30, 40])
        self.right("0011 0 10 000010101 000010101 011 00100", [10, 20, 31, 40])

    def test_code_3(self):
        self.right("0001 0 11 00101 1 1 1", [2, 0])
        self.right("0100 0 11 00111 011 000000000011111010000 010", [3, 3, 3, -1000, -1000])
        self.right("1111 0 11 1 0001000 000010011 0001000", [0] * 8 + [9] * 8)
        self.right("1111 0 11 000000010110101 00110 1 00100 000000010110101 00110", [90] * 6 + [0] * 4 + [90] * 6)

    def test_blocks_without_readings(self):
        for count in range(1, 17):
            self.right(model.binary(count - 1, 4) + "1" + "0" * count, [GAP] * count)

    def test_blocks_of_1(self):
        for v in (0, 1, -1, 5, 1000, -1000, TOP, -TOP):
            self.right(model.block_text([v]), [v])
        self.right("0000 1 0", [GAP])

    def test_blocks_of_16_with_gaps(self):
        self.right("1111 1 0000000000000001 10 0001011", [GAP] * 15 + [5])
        self.right("1111 1 1000000000000000 10 0001011", [5] + [GAP] * 15)
        for at in range(16):
            for values in ([k * k for k in range(16)], [7] * 16, [TOP, -TOP] * 8):
                values = values[:at] + [GAP] + values[at + 1:]
                self.right(model.block_text(values), values)

    def test_gaps_in_front_in_the_midst_and_at_the_end(self):
        self.right("0001 1 01 10 0001011", [GAP, 5])
        self.right("0001 1 10 10 0001011", [5, GAP])
        self.right("0010 1 101 10 0001011 1", [5, GAP, 5])
        self.right("0111 1 00110110 00 00100 1010 0101 1110 1111", [GAP, GAP, 5, -3, GAP, 7, -8, GAP])
        self.right("0101 1 110111 11 00111 011 000000000011111010000 010", [3, 3, GAP, 3, -1000, -1000])

    def test_the_ends_of_the_readings(self):
        for values in ([-TOP, TOP], [TOP, -TOP], [TOP] * 16, [-TOP] * 16, [-TOP] * 8 + [TOP] * 8, [TOP, -TOP] * 8,
                       [-TOP + 125000000 * k for k in range(16)], [GAP, TOP, GAP, -TOP]):
            self.right(model.block_text(values), values)

    def test_what_block_gave_in_each_code(self):
        series = ([5, -3, 7, -8], [7] * 16, [10, 20, 30, 40, GAP, 50], [3, 3, 3, -1000, -1000])
        self.assertEqual([model.chosen([v for v in s if v != GAP]) for s in series], [0, 1, 2, 3])
        for values in series:
            told = ask([add(2, values), block(2, 0)])[1]
            self.answers(told[2:], [0, 0] + told_values(values))

    def test_every_block_of_a_corrected_series(self):
        values = [(k * k * 37) % 101 for k in range(60)]
        calls = [add(1, values), fix(1, 0, GAP), fix(1, 17, TOP), fix(1, 59, -TOP)]
        values[0], values[17], values[59] = GAP, TOP, -TOP
        rows = [answer[2:] for answer in ask(calls + [block(1, b) for b in range(4)])[4:]]
        for b, row in enumerate(rows):
            self.answers(row, [0, 0] + told_values(values[16 * b:16 * b + 16]))

    def test_nothing_is_kept_of_it(self):
        told = ask([unpack([4, 44]), state(), unpack([]), unpack([4, 44]), state()])
        self.assertEqual(told, [[0, 0, 2, 1, 5], [0] * 9, [0, 1], [0, 0, 2, 1, 5], [0] * 9])


class BitsLack(Unpacked):
    def test_no_bytes_at_all(self):
        # The count has 4 bits, so bytes end in it only where there are none.
        self.answers([], [0, 1])

    def test_in_the_gap_bits(self):
        self.wrong_at_its_end("1111 1 111", 1)
        self.wrong_at_its_end("1111 1 000", 1)
        self.wrong_at_its_end("0011 1 000", 1)
        self.wrong_at_its_end("0011 1 111", 1)
        self.wrong_at_its_end("1111 1 000 00000000", 1)
        self.wrong_at_its_end("1011 1 000 00000000", 1)
        self.right("1010 1 000 00000000", [GAP] * 11)

    def test_in_the_number_of_the_code(self):
        self.wrong_at_its_end("0010 1 111", 1)
        self.wrong_at_its_end("0010 1 001", 1)
        self.wrong_at_its_end("0001 1 11 0", 1)
        self.wrong_at_its_end("0001 1 11 1", 1)
        self.wrong_at_its_end("0001 1 01 1", 1)

    def test_in_the_width_of_code_0(self):
        self.wrong_at_its_end("0000 1 1 00", 1)
        self.wrong_at_its_end("0000 0 00 0", 1)
        self.wrong_at_its_end("0000 0 00 1", 1)
        self.wrong_at_its_end("0100 1 11111 00 0000", 1)

    def test_in_the_width_of_code_1(self):
        self.wrong_at_its_end("0000 0 01 1", 1)
        self.wrong_at_its_end("0000 1 1 01 011 00000", 1)

    def test_in_a_number_in_w_bits(self):
        self.wrong_at_its_end("0000 0 00 00101 1010", 1)
        self.wrong_at_its_end("0000 0 00 11111 1010", 1)
        self.wrong_at_its_end("0001 0 00 00100 1010", 1)
        self.wrong_at_its_end("0001 0 00 00011 101 0", 1)
        self.wrong_at_its_end("0001 0 01 1 000011 01", 1)
        self.wrong_at_its_end("0010 0 01 1 000010 01", 1)
        self.wrong_at_its_end("0001 0 01 1 111111 00" + "0" * 56, 1)

    def test_in_the_zeros_of_a_self_ending_number(self):
        self.wrong_at_its_end("0000 1 1 10", 1)
        self.wrong_at_its_end("0000 0 10 0", 1)
        self.wrong_at_its_end("0000 0 01 0", 1)
        self.wrong_at_its_end("0000 0 11 0", 1)
        self.wrong_at_its_end("0000 0 11 1", 1)
        self.wrong_at_its_end("0001 0 10 1", 1)
        for count in range(6):
            self.wrong_at_its_end("0000 1 1 10" + "00000000" * count, 1)

    def test_in_the_digits_of_a_self_ending_number(self):
        self.wrong_at_its_end("0000 0 10 000001 000", 1)
        self.wrong_at_its_end("0000 0 10 000000001", 1)
        self.wrong_at_its_end("0000 0 01 000001 111", 1)
        self.wrong_at_its_end("0000 0 11 000001 000", 1)
        self.wrong_at_its_end("0001 0 11 1 000001 00", 1)
        self.wrong_at_its_end("0011 0 10 1 1 1 00001 0", 1)

    def test_behind_a_run(self):
        self.wrong_at_its_end("0001 0 11 1 1 0000 0 01", 1)
        self.wrong_at_its_end("0010 0 11 011 010 1 00", 1)

    def test_right_bytes_cut_off_anywhere(self):
        for values in ([5, -3, 7, -8], [7, 7, 5, 5, 3], [10, 20, 31, 40], [3, 3, 3, -1000, -1000], [TOP, -TOP] * 8,
                       [TOP] * 16, [-TOP] * 8 + [TOP] * 8, [GAP] * 16, [GAP, 5, GAP, 9, -4, 800, GAP],
                       [-TOP + 125000000 * k for k in range(16)]):
            row = model.block_bytes(values)
            for count in range(len(row)):
                self.answers(row[:count], [0, 1])
            self.answers(row, [0, 0] + told_values(values))


class WrongNumbers(Unpacked):
    def test_40_zero_bits(self):
        self.wrong_at_its_end("0000 1 1 10" + "0" * 40, 1)
        self.wrong_at_its_end("0000 0 10" + "0" * 40 + "1", 1)
        self.wrong_at_its_end("0000 0 10" + "0" * 40 + "1" + "0" * 32, 1)
        # All its digits are there, so it is a reading out of its range.
        self.wrong_at_its_end("0000 0 10" + "0" * 40 + "1" + "0" * 40, 2)

    def test_41_zero_bits(self):
        self.wrong_at_its_end("0000 0 10" + "0" * 41, 2)
        self.wrong_at_its_end("0000 0 10" + "0" * 41 + "1" * 8, 2)
        self.wrong_at_its_end("0000 0 10" + "0" * 41 + "1" + "0" * 47, 2)
        self.wrong_at_its_end("0000 1 1 10" + "0" * 41 + "1" + "0" * 6, 2)
        self.wrong_at_its_end("0000 0 10" + "0" * 1001, 2)
        self.answers([4] + [0] * 199, [0, 2])

    def test_41_zero_bits_at_each_self_ending_number(self):
        for ahead in ("0000 0 01", "0000 0 11", "0000 0 11 1", "0001 0 10 1", "0010 0 10 1 1", "0010 0 10 1 010",
                      "0001 0 11 1 1", "0001 0 11 1 1 00101"):
            bits = ahead.replace(" ", "") + "0" * 40
            self.wrong(bits + "0", 2)
            self.wrong(bits + "0" + "1" * 90, 2)
            # Behind 40 of them and a 1 only the digits lack.
            self.wrong(bits + "1", 1)

    def test_40_zero_bits_in_how_many_a_run_has(self):
        self.wrong("0001 0 11 1" + "0" * 40 + "1" + "0" * 40, 2)
        self.wrong_at_its_end("0001 0 11 1" + "0" * 40, 1)

    def test_zero_bits_that_begin_no_self_ending_number(self):
        self.wrong("0001 0 01 1 111111" + "0" * 63, 4)
        self.right("1111 1" + "0" * 16, [GAP] * 16)
        self.wrong("1111 0 00 00100" + "0" * 64, 4)

    def test_a_run_of_as_many_as_are_wanted(self):
        self.right("0101 0 11" + first_number(1000) + model.gamma(5) + first_number(0) + model.gamma(1),
                   [1000] * 5 + [0])
        self.right("0001 0 11 00101 1 1 1", [2, 0])
        for count in range(1, 17):
            self.wrong(head(count, 3) + first_number(0) + model.gamma(count), 4)

    def test_a_run_of_one_more(self):
        for count in range(1, 17):
            for more in (count + 1, count + 2, 17, 1000, 2 ** 32):
                if more > count:
                    self.wrong(head(count, 3) + first_number(0) + model.gamma(more), 2)
        self.wrong("0101 0 11" + first_number(1000) + model.gamma(5) + first_number(0) + model.gamma(2), 2)
        self.wrong("0001 0 11 00101 1 1 010", 2)

    def test_a_run_of_one_more_behind_gaps(self):
        self.wrong("0010 1 101 11 1 010", 4)
        self.wrong("0010 1 101 11 1 011", 2)

    def test_a_run_of_one_more_where_bits_lack_behind_it(self):
        self.wrong_at_its_end("0001 0 11 1 011 00101", 2)
        self.wrong_at_its_end("0000 1 1 11 00101 010", 2)
        self.wrong_at_its_end("0010 1 111 11 1 00100", 2)
        self.wrong_at_its_end("0010 0 11 1 010 1 011 0", 2)

    def test_a_run_of_one_more_with_bits_behind_it(self):
        self.wrong("0001 0 11 1 011 11111111 11111111 11111111", 2)
        self.wrong("0001 0 11 1 011" + "0" * 80, 2)

    def test_bits_lack_in_how_many_a_run_has(self):
        self.wrong_at_its_end("0001 0 11 1 0000001 1", 1)

    def test_a_reading_just_in_its_range(self):
        for code in range(4):
            for v in (TOP, -TOP):
                for readings in ([v], [v, v], [0, v], [v, 0], [v, v - v // TOP], [0, v, 0]):
                    if model.chosen(readings) == code:
                        self.right(in_code(code, readings), readings)
                    else:
                        self.wrong(in_code(code, readings), 4)

    def test_a_reading_just_out_of_its_range(self):
        for code in range(4):
            for v in (TOP + 1, -TOP - 1):
                for readings in ([v], [v, v], [0, v], [v, 0], [v, v - 1], [v, v + 1], [0, 0, v]):
                    self.wrong(in_code(code, readings), 2)

    def test_a_reading_that_comes_back_into_its_range(self):
        for code in range(4):
            for sign in (1, -1):
                inside, outside = sign * TOP, sign * (TOP + 1)
                for readings in ([inside, outside, inside], [outside, inside], [0, outside, 0, 0],
                                 [inside] * 7 + [outside] + [inside] * 8):
                    self.wrong(in_code(code, readings), 2)

    def test_readings_far_out_of_their_range(self):
        for far in (GAP, -GAP, 2 ** 35, -2 ** 35, 2 ** 38):
            for code in (1, 2, 3):
                self.wrong(in_code(code, [far]), 2)
                self.wrong(in_code(code, [0, far, 0]), 2)
        for far in (2 ** 61, -2 ** 61, 2 ** 62 - 1, 1 - 2 ** 62):
            self.wrong(in_code(1, [0, far]), 2)
            self.wrong(in_code(1, [0, far, 0]), 2)

    def test_the_number_of_a_gap_is_no_reading(self):
        self.wrong("0001 1 11 10" + first_number(GAP) + first_number(0), 2)
        self.wrong("0001 1 10 10" + first_number(GAP), 2)
        self.wrong("0000 0 10" + first_number(GAP), 2)

    def test_the_folded_numbers_at_the_ends_in_code_0(self):
        for folded, v in ((1999999999, -TOP), (2000000000, TOP)):
            self.right("0000 0 00 11111" + model.binary(folded, 31), [v])
        for folded in (2000000001, 2000000002, 2 ** 31 - 1, 2 ** 31 - 2):
            self.wrong("0000 0 00 11111" + model.binary(folded, 31), 2)


class Widths(Unpacked):
    def test_0_in_code_0(self):
        self.right("0100 0 00 00000", [0] * 5)
        self.right("1111 0 00 00000", [0] * 16)
        self.right("0111 1 11101101 00 00000", [0, 0, 0, GAP, 0, 0, GAP, 0])
        self.wrong("0000 0 00 00000", 4)
        self.wrong("0011 0 00 00000", 4)

    def test_31_in_code_0(self):
        values = [TOP, -TOP, TOP]
        self.right("0010 0 00 11111" + "".join(model.binary(model.fold(v), 31) for v in values), values)
        self.wrong("0000 0 00 11111" + "0" * 31, 4)
        self.wrong_at_its_end("0000 1 1 00 11111" + "0" * 27, 1)

    def test_0_in_code_1(self):
        self.right("1111 0 01 0001111 000000", [7] * 16)
        self.wrong("0000 0 01 0001111 000000", 4)
        self.wrong("0001 0 01 0001111 000000", 4)

    def test_63_in_code_1(self):
        self.wrong("0000 0 01 1 111111", 4)
        self.wrong("0001 0 01 1 111111" + "0" * 63, 4)
        self.wrong("0001 0 01 1 111111" + model.binary(2 * TOP, 63), 4)
        self.wrong("0001 0 01 1 111111" + model.binary(2 * TOP + 1, 63), 2)
        self.wrong("0001 0 01 1 111111" + "1" * 63, 2)
        self.wrong("0010 0 01 1 111111" + ("1" * 62 + "0") + ("1" * 62 + "0"), 2)

    def test_of_one_reading_in_code_1(self):
        for width in (0, 1, 31, 63):
            self.wrong("0000 0 01 1" + model.binary(width, 6), 4)


class BitsLeftOver(Unpacked):
    def test_7_bits(self):
        self.right("0011 1 0000" + "0000000", [GAP] * 4)
        self.answers([56, 0], [0, 0, 8] + [0] * 8)

    def test_8_bits(self):
        self.answers([40], [0, 0, 6] + [0] * 6)
        self.answers([40, 0], [0, 3])
        self.answers([5, 0], [0, 3])
        self.answers([5], [0, 0, 2, 1, 0])

    def test_more_than_8_bits(self):
        for count in (1, 2, 3, 100, 197):
            self.answers([242, 60, 0] + [0] * count, [0, 3])
            self.answers([242, 60, 0] + [255] * count, [0, 3])

    def test_a_left_bit_of_1(self):
        for bit in range(7):
            self.answers([56, 1 << bit], [0, 3])
        self.answers([4, 45], [0, 3])
        self.answers([4, 46], [0, 3])
        self.answers([4, 47], [0, 3])
        self.answers([242, 60, 1], [0, 3])
        self.answers([242, 60, 8], [0, 3])

    def test_behind_a_block_without_readings(self):
        self.answers([24 + 1], [0, 3])
        self.answers([8], [0, 0, 2, 0, 0])
        for left in (1, 2, 3):
            self.answers([8 + left], [0, 3])


class OtherBytes(Unpacked):
    def test_another_code(self):
        for values in itertools.product((0, 1, -4, 90), repeat=3):
            readings = list(values)
            for code in range(4):
                if code == model.chosen(readings):
                    self.right(in_code(code, readings), readings)
                else:
                    self.wrong(in_code(code, readings), 4)

    def test_another_code_of_as_many_bits(self):
        for readings, code in (([5, 100], 1), ([-8], 2), ([0, -1, 0], 3), ([0, -2, -1], 1), ([0, -2, -1], 2),
                               ([0, 50], 2), ([0, -1, 2, 1], 3), ([1, 0], 3)):
            lengths = [len(text) for text in model.codes(readings)]
            self.assertEqual(lengths[code], min(lengths), readings)
            self.wrong(in_code(code, readings), 4)

    def test_a_greater_width_than_is_wanted(self):
        self.wrong("0011 0 00 00101 01010 00101 01110 01111", 4)
        self.wrong("1111 0 00 00001" + "0" * 16, 4)
        self.wrong("0001 0 01 1 001100 011111010000", 4)
        self.wrong("1111 0 01 0001111 000001" + "0" * 15, 4)

    def test_gap_bits_that_are_all_1(self):
        self.wrong("0000 1 1 10 0001011", 4)
        self.wrong("0001 1 11 11 00101 1 1 1", 4)
        self.wrong("1111 1 1111111111111111 01 0001111 000000", 4)

    def test_runs_that_could_be_one(self):
        self.wrong("0001 0 11 1 1 1 1", 4)
        self.wrong("1111 0 11 1 0001000 000010011 00100 000010011 00100", 4)
        self.wrong("1111 0 11 1 00100 1 00100 000010011 0001000", 4)


class SeveralAtOnce(Unpacked):
    out = model.binary(2000000001, 31)

    def test_bits_lack_behind_a_reading_out_of_its_range(self):
        self.wrong_at_its_end("0001 0 00 11111" + self.out + "0" * 29, 1)
        self.wrong("0001 0 11" + first_number(TOP + 1) + "1", 1)
        self.wrong_at_its_end("0001 0 10" + first_number(TOP + 1) + "0000", 1)
        self.wrong_at_its_end("0001 0 01" + first_number(TOP + 1) + "0000", 1)

    def test_bits_lack_behind_gap_bits_that_are_all_1(self):
        self.wrong_at_its_end("0000 1 1 00", 1)
        self.wrong_at_its_end("0000 1 1 00 00100 101", 1)

    def test_41_zero_bits_behind_a_reading_out_of_its_range(self):
        self.wrong("0001 0 10" + first_number(TOP + 1) + "0" * 41, 2)

    def test_a_run_of_one_more_behind_a_reading_out_of_its_range(self):
        self.wrong("0001 0 11" + first_number(TOP + 1) + "1" + "1 011", 2)

    def test_a_run_of_one_more_ahead_of_bits_that_lack(self):
        self.wrong_at_its_end("0010 0 11 1 00100 000", 2)
        self.wrong_at_its_end("0010 1 111 11 1 00100", 2)

    def test_a_reading_out_of_its_range_and_bits_left(self):
        self.wrong("0000 0 00 11111" + self.out + "00000 00000000", 2)
        self.wrong("0000 0 00 11111" + self.out + "11111", 2)
        self.wrong("0000 1 1 00 11111" + self.out + "1111", 2)

    def test_bits_left_behind_another_code(self):
        self.wrong("0000 0 00 00000 0001", 3)
        self.wrong("0000 0 00 00000 0000 00000000", 3)
        self.wrong("0000 0 00 00000 0000", 4)
        self.answers([0] * 200, [0, 3])

    def test_bits_left_behind_gap_bits_that_are_all_1(self):
        self.wrong("0000 1 1 10 0001011 1", 3)
        self.wrong("0000 1 1 10 0001011 0 00000000", 3)
        self.wrong("0000 1 1 10 0001011 0", 4)

    def test_bits_left_behind_runs_that_could_be_one(self):
        self.wrong("0001 0 11 1 1 1 1 00001", 3)
        self.wrong("0001 0 11 1 1 1 1 00000 00000000", 3)


if __name__ == "__main__":
    unittest.main()
