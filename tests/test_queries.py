"""get, was, sum, span, seek and coarse: the calls 3 to 8."""

import unittest

from tests.asking import GAP, TOP, Asking, add, adds, ask, clear, coarse, fix, get, last, seek, span, sum_of, was


class Get(Asking):
    def test_readings_and_gaps(self):
        told = ask([add(0, [5, GAP, -7, 0])] + [get(0, place) for place in range(4)])
        self.assertEqual(told[1:], [[0, 1, 5], [0, 0, 0], [0, 1, -7], [0, 1, 0]])

    def test_what_stands_now(self):
        told = ask([add(0, [5, 6]), fix(0, 1, 8), get(0, 1), fix(0, 1, 9), get(0, 1), get(0, 0)])
        self.assertEqual([told[2], told[4], told[5]], [[0, 1, 8], [0, 1, 9], [0, 1, 5]])

    def test_no_such_place(self):
        self.refused([clear(0)], get(0, 0), -4)
        self.refused([add(0, [1, 2])], get(0, 2), -4)
        self.refused([add(0, [1, 2])], get(0, 400), -4)
        self.refused(adds(0, [1] * 400), get(0, 400), -4)
        self.told(adds(0, [1] * 399 + [2]) + [get(0, 399)], [0, 1, 2])

    def test_the_four_series_stand_apart(self):
        calls = [add(s, [100 * s + k for k in range(s + 1)]) for s in range(4)]
        told = ask(calls + [get(s, s) for s in range(4)] + [get(s, s + 1) for s in range(4)])
        self.assertEqual(told[4:8], [[0, 1, 0], [0, 1, 101], [0, 1, 202], [0, 1, 303]])
        self.assertEqual(told[8:], [[-4]] * 4)


class Was(Asking):
    setup = [add(1, [10, GAP, 30]), fix(1, 0, 11), fix(1, 1, 21), fix(1, 0, GAP), fix(1, 0, 13), fix(1, 1, GAP)]

    def test_as_of_each_correction(self):
        told = ask(self.setup + [was(1, place, n) for place in range(3) for n in range(6)])[6:]
        first = [[0, 1, 10], [0, 1, 11], [0, 1, 11], [0, 0, 0], [0, 1, 13], [0, 1, 13]]
        second = [[0, 0, 0], [0, 0, 0], [0, 1, 21], [0, 1, 21], [0, 1, 21], [0, 0, 0]]
        self.assertEqual(told, first + second + [[0, 1, 30]] * 6)

    def test_without_corrections(self):
        self.told([add(0, [4]), was(0, 0, 0)], [0, 1, 4])
        self.told([add(0, [GAP]), was(0, 0, 0)], [0, 0, 0])

    def test_fewer_corrections_than_n(self):
        self.told(self.setup + [was(1, 0, 5)], [0, 1, 13])
        for n in (6, 7, 60, 100):
            self.refused(self.setup, was(1, 0, n), -6)
        self.refused([add(0, [4])], was(0, 0, 1), -6)
        self.refused([add(0, [4])], was(0, 0, 100), -6)

    def test_no_such_place(self):
        self.refused(self.setup, was(1, 3, 0), -4)
        self.refused(self.setup, was(1, 400, 5), -4)
        self.refused([clear(1)], was(1, 0, 0), -4)

    def test_which_refusal_is_told_first(self):
        self.refused(self.setup, was(1, 3, 6), -4)
        self.refused(self.setup, was(1, 3, 101), -1)
        self.refused(self.setup, was(1, 0, 101), -1)
        self.refused(self.setup, was(1, 401, 6), -1)

    def test_what_was_added_later_stands_as_of_every_n(self):
        told = ask([add(0, [1]), fix(0, 0, 2), add(0, [3]), was(0, 1, 0), was(0, 1, 1)])
        self.assertEqual(told[3:], [[0, 1, 3], [0, 1, 3]])

    def test_as_of_60(self):
        calls = [add(0, [0])] + [fix(0, 0, n) for n in range(1, 61)]
        told = ask(calls + [was(0, 0, 60), was(0, 0, 59), was(0, 0, 0), was(0, 0, 61)])
        self.assertEqual(told[61:], [[0, 1, 60], [0, 1, 59], [0, 1, 0], [-6]])


class SumOf(Asking):
    setup = [add(0, [5, GAP, -7, 100, GAP, 3])]

    def test_counts_and_sums_readings_alone(self):
        self.told(self.setup + [sum_of(0, 0, 6)], [0, 4, 101])
        self.told(self.setup + [sum_of(0, 1, 4)], [0, 2, 93])
        self.told(self.setup + [sum_of(0, 2, 3)], [0, 1, -7])

    def test_nothing_where_i_is_j(self):
        for place in range(7):
            self.told(self.setup + [sum_of(0, place, place)], [0, 0, 0])
        self.told([sum_of(2, 0, 0)], [0, 0, 0])

    def test_a_span_of_gaps_alone(self):
        self.told(self.setup + [sum_of(0, 1, 2)], [0, 0, 0])
        self.told([add(0, [GAP] * 20), sum_of(0, 0, 20)], [0, 0, 0])

    def test_up_to_the_end_and_beyond_it(self):
        self.told(self.setup + [sum_of(0, 5, 6)], [0, 1, 3])
        self.refused(self.setup, sum_of(0, 5, 7), -4)
        self.refused(self.setup, sum_of(0, 7, 7), -4)
        self.refused(self.setup, sum_of(0, 0, 400), -4)
        self.refused(self.setup, sum_of(0, 400, 400), -4)
        self.refused([clear(0)], sum_of(0, 0, 1), -4)

    def test_j_less_than_i(self):
        self.refused(self.setup, sum_of(0, 1, 0), -4)
        self.refused(self.setup, sum_of(0, 6, 5), -4)
        self.refused(self.setup, sum_of(0, 400, 3), -4)

    def test_what_stands_now(self):
        self.told(self.setup + [fix(0, 1, 1000), fix(0, 3, GAP), sum_of(0, 0, 6)], [0, 4, 1001])

    def test_the_greatest_sums(self):
        self.told(adds(3, [TOP] * 400) + [sum_of(3, 0, 400)], [0, 400, 400 * TOP])
        self.told(adds(3, [-TOP] * 400) + [sum_of(3, 0, 400)], [0, 400, -400 * TOP])
        self.told(adds(3, [TOP] * 400) + [sum_of(3, 400, 400)], [0, 0, 0])


class Span(Asking):
    setup = [add(0, [GAP, 5, -7, 9, -7, 9, GAP, 5])]

    def test_least_and_greatest_with_their_first_places(self):
        self.told(self.setup + [span(0, 0, 8)], [0, -7, 2, 9, 3])

    def test_the_first_place_is_the_first_of_the_span(self):
        self.told(self.setup + [span(0, 3, 8)], [0, -7, 4, 9, 3])
        self.told(self.setup + [span(0, 4, 8)], [0, -7, 4, 9, 5])
        self.told(self.setup + [span(0, 5, 8)], [0, 5, 7, 9, 5])
        self.told(self.setup + [span(0, 6, 8)], [0, 5, 7, 5, 7])

    def test_one_reading_is_both(self):
        self.told(self.setup + [span(0, 0, 2)], [0, 5, 1, 5, 1])
        self.told([add(0, [3, 3, 3]), span(0, 1, 3)], [0, 3, 1, 3, 1])

    def test_a_gap_is_neither(self):
        self.told([add(0, [GAP, TOP, GAP, -TOP]), span(0, 0, 4)], [0, -TOP, 3, TOP, 1])
        self.told([add(0, [GAP, -5, GAP]), span(0, 0, 3)], [0, -5, 1, -5, 1])
        self.told([add(0, [GAP, 5, GAP]), span(0, 0, 3)], [0, 5, 1, 5, 1])

    def test_no_readings(self):
        self.refused(self.setup, span(0, 0, 1), -8)
        self.refused(self.setup, span(0, 6, 7), -8)
        self.refused(self.setup, span(0, 3, 3), -8)
        self.refused(self.setup, span(0, 8, 8), -8)
        self.refused([clear(0)], span(0, 0, 0), -8)
        self.refused([add(0, [GAP] * 30)], span(0, 0, 30), -8)

    def test_beyond_the_end_and_backwards(self):
        self.told(self.setup + [span(0, 7, 8)], [0, 5, 7, 5, 7])
        self.refused(self.setup, span(0, 7, 9), -4)
        self.refused(self.setup, span(0, 9, 9), -4)
        self.refused(self.setup, span(0, 0, 400), -4)
        self.refused(self.setup, span(0, 3, 2), -4)
        self.refused([add(0, [GAP] * 3)], span(0, 2, 1), -4)
        self.refused([add(0, [GAP] * 3)], span(0, 0, 4), -4)

    def test_what_stands_now(self):
        self.told(self.setup + [fix(0, 0, 9), fix(0, 2, GAP), fix(0, 7, -8), span(0, 0, 8)], [0, -8, 7, 9, 0])

    def test_the_end_of_a_full_series(self):
        self.told(adds(0, list(range(400))) + [span(0, 0, 400)], [0, 0, 0, 399, 399])
        self.told(adds(0, list(range(400, 0, -1))) + [span(0, 10, 400)], [0, 1, 399, 390, 10])


class Seek(Asking):
    setup = [add(0, [GAP, 5, -7, 9, GAP, 9, 12])]

    def test_the_first_reading_of_x_or_more(self):
        for start, bound, place in ((0, 5, 1), (0, 6, 3), (0, 9, 3), (4, 9, 5), (0, 10, 6), (6, 12, 6), (2, -7, 2),
                                    (2, -6, 3), (0, -2 * TOP, 1), (4, -2 * TOP, 5), (1, 5, 1), (2, 5, 3)):
            self.told(self.setup + [seek(0, start, bound)], [0, place])

    def test_none(self):
        self.refused(self.setup, seek(0, 0, 13), -8)
        self.refused(self.setup, seek(0, 0, 2 * TOP), -8)
        self.refused(self.setup, seek(0, 7, -2 * TOP), -8)
        self.refused([clear(0)], seek(0, 0, -2 * TOP), -8)

    def test_a_gap_is_never_found(self):
        self.refused([add(0, [GAP, GAP])], seek(0, 0, -2 * TOP), -8)
        self.refused([add(0, [GAP, GAP])], seek(0, 0, 0), -8)
        self.refused([add(0, [GAP, TOP])], seek(0, 0, 2 * TOP), -8)
        self.refused([add(0, [GAP, TOP])], seek(0, 0, TOP + 1), -8)
        self.told([add(0, [GAP, TOP]), seek(0, 0, TOP)], [0, 1])

    def test_from_the_end_and_beyond_it(self):
        self.refused(self.setup, seek(0, 7, 0), -8)
        self.refused(self.setup, seek(0, 8, 0), -4)
        self.refused(self.setup, seek(0, 8, 2 * TOP), -4)
        self.refused(self.setup, seek(0, 400, 0), -4)
        self.refused([clear(0)], seek(0, 1, 0), -4)
        self.refused(adds(0, [1] * 400), seek(0, 400, 0), -8)
        self.told(adds(0, [1] * 400) + [seek(0, 399, 1)], [0, 399])

    def test_what_stands_now(self):
        told = ask(self.setup + [fix(0, 3, GAP), fix(0, 0, -1), seek(0, 0, 6), seek(0, 0, -1), fix(0, 0, 50),
                                 seek(0, 0, 6)])
        self.assertEqual([told[3], told[4], told[6]], [[0, 5], [0, 0], [0, 0]])


class Coarse(Asking):
    setup = [add(0, [1, 2, 3, GAP, 5, -6, 7])]

    def test_pieces_with_a_last_one_left_out(self):
        self.told(self.setup + [coarse(0, 2)], [0, 6, 1, 3, 0, 0, 1, -1])
        self.told(self.setup + [coarse(0, 3)], [0, 4, 1, 6, 0, 0])
        self.told(self.setup + [coarse(0, 4)], [0, 2, 0, 0])

    def test_pieces_without_a_remainder(self):
        self.told(self.setup + [coarse(0, 1)], [0, 14, 1, 1, 1, 2, 1, 3, 0, 0, 1, 5, 1, -6, 1, 7])
        self.told(self.setup + [coarse(0, 7)], [0, 2, 0, 0])
        self.told([add(0, [4, 5, 6, 7]), coarse(0, 2)], [0, 4, 1, 9, 1, 13])
        self.told([add(0, [4, -4]), coarse(0, 2)], [0, 2, 1, 0])

    def test_n_more_than_there_are_places(self):
        self.told(self.setup + [coarse(0, 8)], [0, 0])
        self.told(self.setup + [coarse(0, 96)], [0, 0])
        self.told([coarse(0, 1)], [0, 0])
        self.told([coarse(0, 96)], [0, 0])

    def test_a_gap_at_each_end_of_a_piece(self):
        self.told([add(0, [GAP, 1, 2, 1, 2, GAP, 1, 2, 3]), coarse(0, 3)], [0, 6, 0, 0, 0, 0, 1, 6])

    def test_a_gap_in_the_piece_that_is_left_out(self):
        self.told([add(0, [1, 2, GAP]), coarse(0, 2)], [0, 2, 1, 3])

    def test_what_stands_now(self):
        self.told(self.setup + [fix(0, 3, 10), fix(0, 0, GAP), coarse(0, 2)], [0, 6, 0, 0, 1, 13, 1, -1])

    def test_a_full_series(self):
        self.told(adds(0, [TOP] * 400) + [coarse(0, 96)], [0, 8] + [1, 96 * TOP] * 4)
        self.told(adds(0, [-TOP] * 400) + [coarse(0, 80)], [0, 10] + [1, -80 * TOP] * 5)
        self.assertEqual(last(adds(0, [GAP] * 400) + [coarse(0, 1)]), [0, 800] + [0] * 800)


if __name__ == "__main__":
    unittest.main()
