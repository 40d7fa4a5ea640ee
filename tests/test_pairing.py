"""copy, differ and fill: the calls 15 to 17."""

import unittest

from tests.asking import (GAP, TOP, Asking, add, adds, ask, clear, coarse, copy, differ, fill, fix, get, history, load,
                          sizes, state, told_values, trim, was)


class Copy(Asking):
    first = [add(0, [1, GAP, 3]), fix(0, 0, 5), fix(0, 1, 6), fix(0, 0, GAP)]
    second = [add(2, [9, 8, 7, 6]), fix(2, 3, 1)]

    def test_a_series_with_corrections(self):
        told = ask(self.first + [copy(0, 2), coarse(2, 1), history(2, 0), history(2, 1), was(2, 0, 1), was(2, 0, 2),
                                 was(2, 1, 1), was(2, 0, 4), fix(2, 2, 0), state()])[4:]
        self.assertEqual(told, [[0], [0] + told_values([GAP, 6, 3]), [0, 6, 1, 1, 1, 5, 0, 0], [0, 4, 0, 0, 1, 6],
                                [0, 1, 5], [0, 1, 5], [0, 0, 0], [-6], [0, 4], [0, 3, 3, 0, 0, 3, 4, 0, 0]])

    def test_over_a_series_that_has_some(self):
        told = ask(self.first + self.second + [copy(0, 2), state(), coarse(2, 1), get(2, 3), differ(0, 2, 0)])[6:]
        self.assertEqual(told, [[0], [0, 3, 3, 0, 0, 3, 3, 0, 0], [0] + told_values([GAP, 6, 3]), [-4], [0, -1]])

    def test_the_first_one_stays(self):
        look = [coarse(0, 1), history(0, 0), was(0, 0, 2), sizes(0)]
        self.assertEqual(ask(self.first + look)[4:], ask(self.first + [copy(0, 1)] + look)[5:])

    def test_which_one_becomes_like_which(self):
        told = ask([add(1, [4]), add(3, [5]), copy(1, 3), get(1, 0), get(3, 0)])
        self.assertEqual(told[2:], [[0], [0, 1, 4], [0, 1, 4]])
        told = ask([add(1, [4]), add(3, [5]), copy(3, 1), get(1, 0), get(3, 0)])
        self.assertEqual(told[2:], [[0], [0, 1, 5], [0, 1, 5]])

    def test_an_empty_series(self):
        told = ask(self.second + [copy(1, 2), state(), add(2, [3]), was(2, 0, 0), fix(2, 0, 4)])
        self.assertEqual(told[2:], [[0], [0] * 9, [0, 1], [0, 1, 3], [0, 1]])

    def test_a_later_change_of_either_leaves_the_other(self):
        alike = self.first + [add(3, [1, 2, 3]), copy(0, 2)]
        for one, other in ((0, 2), (2, 0)):
            look = [coarse(other, 1), history(other, 0), history(other, 1), history(other, 2), was(other, 0, 1)]
            expected = ask(alike + look)[6:]
            unchanged = ask(alike + [coarse(one, 1)])[6]
            for calls in ([add(one, [50])], [fix(one, 2, 51)], [clear(one)], [trim(one, 1)], [load(one, [24])],
                          [copy(3, one)], [fill(one, 3)], [add(one, [50]), fix(one, 0, 1), fix(one, 3, 2)]):
                told = ask(alike + calls + [coarse(one, 1)] + look)[6:]
                self.assertEqual([answer[0] for answer in told], [0] * len(told), calls)
                self.assertNotEqual(told[-6], unchanged, calls)
                self.assertEqual(told[-5:], expected, calls)

    def test_a_series_with_itself(self):
        for series in range(4):
            self.refused(self.first + self.second, copy(series, series), -6)

    def test_full_series(self):
        calls = adds(0, [GAP] * 400) + adds(1, list(range(60))) + [fill(0, 1), copy(0, 3), state()]
        self.assertEqual(ask(calls)[-1], [0, 400, 60, 60, 0, 0, 0, 400, 60])
        self.assertEqual(ask(calls + [fix(3, 0, 77), add(3, [1]), get(3, 59)])[-3:], [[-5], [-5], [0, 1, 59]])

    def test_not_as_told_is_told_first(self):
        for call in (copy(4, 4), copy(-1, -1), copy(0, 4), copy(4, 0), copy(0, -1), copy(-1, 0)):
            self.refused(self.first, call, -1)


class Differ(Asking):
    def differs(self, first, second, i, place):
        calls = [call for series, values in ((1, first), (3, second)) for call in adds(series, values)]
        self.told(calls + [differ(1, 3, i)], [0, place])
        self.told(calls + [differ(3, 1, i)], [0, place])

    def test_alike_series(self):
        for values in ([], [5], [5, GAP, -7], [GAP] * 40, list(range(400))):
            for i in (0, 1, 2, 399, 400):
                self.differs(values, values, i, -1)

    def test_a_series_with_itself(self):
        for i in (0, 1, 3, 400):
            self.told([add(0, [1, GAP, 3]), fix(0, 1, 2), differ(0, 0, i)], [0, -1])
            self.told([differ(2, 2, i)], [0, -1])

    def test_the_first_place_from_i_on(self):
        first, second = [1, 2, 3, 4, 5, 6], [1, 9, 3, 9, 9, 6]
        for i, place in ((0, 1), (1, 1), (2, 3), (3, 3), (4, 4), (5, -1), (6, -1), (400, -1)):
            self.differs(first, second, i, place)

    def test_a_difference_ahead_of_i(self):
        self.differs([1, 2, 3], [9, 2, 3], 0, 0)
        self.differs([1, 2, 3], [9, 2, 3], 1, -1)
        self.differs([1, 2, 3], [1, 2, 9], 3, -1)

    def test_a_place_that_only_one_has(self):
        self.differs([1, 2], [1, 2, 3], 0, 2)
        self.differs([1, 2], [1, 2, GAP], 0, 2)
        self.differs([], [0], 0, 0)
        self.differs([], [GAP], 0, 0)
        self.differs([1, 2], [1, 2, 3, 4, 5], 2, 2)
        self.differs([1, 2], [1, 2, 3, 4, 5], 3, 3)
        self.differs([1, 2], [1, 2, 3, 4, 5], 4, 4)
        self.differs([1, 2], [1, 2, 3, 4, 5], 5, -1)
        self.differs([], [7] * 400, 399, 399)
        self.differs([], [7] * 400, 400, -1)

    def test_gaps_against_readings(self):
        self.differs([1, GAP, 3], [1, 0, 3], 0, 1)
        self.differs([GAP], [TOP], 0, 0)
        self.differs([GAP, 2], [GAP, 2], 0, -1)

    def test_at_the_end_and_beyond_both(self):
        for i in (3, 4, 399, 400):
            self.differs([1, 2, 3], [4, 5, 6], i, -1)
            self.differs([], [], i, -1)

    def test_what_stands_now(self):
        told = ask([add(0, [1, 2]), add(1, [1, 3]), differ(0, 1, 0), fix(0, 1, 3), differ(0, 1, 0), fix(1, 0, GAP),
                    differ(0, 1, 0), fix(1, 0, 1), differ(0, 1, 0)])
        self.assertEqual([told[2], told[4], told[6], told[8]], [[0, 1], [0, -1], [0, 0], [0, -1]])

    def test_not_as_told(self):
        for call in (differ(4, 0, 0), differ(0, 4, 0), differ(0, 1, 401), differ(0, 1, -1), differ(-1, 0, 0)):
            self.refused([add(0, [1])], call, -1)


class Fill(Asking):
    def test_gaps_get_the_readings(self):
        told = ask([add(0, [1, GAP, GAP, 4, GAP]), add(1, [9, 8, GAP, 6, -5]), fill(0, 1), coarse(0, 1), coarse(1, 1),
                    state(), history(0, 1), history(0, 2), was(0, 1, 1), was(0, 4, 1), was(0, 4, 2), fix(0, 0, 3)])
        self.assertEqual(told[2:], [[0, 2], [0] + told_values([1, 8, GAP, 4, -5]), [0] + told_values([9, 8, GAP, 6, -5]),
                                    [0, 5, 2, 5, 0, 0, 0, 0, 0], [0, 4, 0, 0, 1, 8], [0, 2, 0, 0],
                                    [0, 1, 8], [0, 0, 0], [0, 1, -5], [0, 3]])

    def test_places_that_only_one_has(self):
        told = ask([add(0, [GAP, GAP]), add(1, [5, GAP, 7, 8]), fill(0, 1), coarse(0, 1), fill(1, 0), coarse(1, 1)])
        self.assertEqual(told[2:], [[0, 1], [0, 4, 1, 5, 0, 0], [0, 0], [0] + told_values([5, GAP, 7, 8])])
        told = ask([add(0, [GAP, GAP, GAP]), add(1, [5]), fill(0, 1), coarse(0, 1)])
        self.assertEqual(told[2:], [[0, 1], [0, 6, 1, 5, 0, 0, 0, 0]])

    def test_empty_series(self):
        for setup in ([clear(0)], [add(0, [GAP])], [add(1, [5])]):
            told = ask(setup + [state(), fill(0, 1), state()])
            self.assertEqual(told[2], [0, 0])
            self.assertEqual(told[1], told[3])

    def test_gaps_on_both_sides(self):
        told = ask([add(2, [GAP, 1, GAP]), add(3, [GAP, GAP, GAP]), fill(2, 3), state()])
        self.assertEqual(told[2:], [[0, 0], [0, 0, 0, 0, 0, 3, 0, 3, 0]])

    def test_no_gaps(self):
        self.told([add(0, [1, 2]), add(1, [3, 4]), fill(0, 1)], [0, 0])

    def test_gaps_that_corrections_made(self):
        told = ask([add(0, [1, 2]), add(1, [3, 4]), fix(0, 1, GAP), fill(0, 1), history(0, 1), state()])
        self.assertEqual(told[3:], [[0, 1], [0, 6, 1, 2, 0, 0, 1, 4], [0, 2, 2, 2, 0, 0, 0, 0, 0]])
        told = ask([add(0, [GAP, GAP]), add(1, [3, 4]), fix(1, 0, GAP), fill(0, 1), coarse(0, 1)])
        self.assertEqual(told[3:], [[0, 1], [0, 4, 0, 0, 1, 4]])

    def test_gaps_that_corrections_took_away(self):
        told = ask([add(0, [GAP, GAP]), add(1, [3, 4]), fix(0, 0, 9), fill(0, 1), coarse(0, 1)])
        self.assertEqual(told[3:], [[0, 1], [0, 4, 1, 9, 1, 4]])
        told = ask([add(0, [GAP, GAP]), add(1, [GAP, GAP]), fix(1, 0, 7), fill(0, 1), coarse(0, 1)])
        self.assertEqual(told[3:], [[0, 1], [0, 4, 1, 7, 0, 0]])

    def test_twice(self):
        told = ask([add(0, [GAP, GAP]), add(1, [3, 4]), fill(0, 1), fill(0, 1), state()])
        self.assertEqual(told[2:], [[0, 2], [0, 0], [0, 2, 2, 2, 0, 0, 0, 0, 0]])

    def test_exactly_60_corrections_and_one_more(self):
        for gaps in (59, 60):
            told = ask([add(0, [GAP] * gaps), add(1, [k - 30 for k in range(64)]), fill(0, 1), state(), coarse(0, 1)])
            self.assertEqual(told[2:], [[0, gaps], [0, gaps, gaps, 64, 0, 0, 0, 0, 0],
                                        [0] + told_values([k - 30 for k in range(gaps)])])
        self.refused([add(0, [GAP] * 61), add(1, [5] * 64)], fill(0, 1), -5)
        self.told([add(0, [GAP] * 64), add(1, [5] * 60), fill(0, 1)], [0, 60])

    def test_with_corrections_made_before(self):
        setup = [add(0, [1] + [GAP] * 50), add(1, [5] * 64)]
        ten = [fix(0, 0, k) for k in range(2, 12)]
        told = ask(setup + ten + [fill(0, 1), state(), fix(0, 0, 99)])
        self.assertEqual(told[12:], [[0, 50], [0, 51, 60, 64, 0, 0, 0, 0, 0], [-5]])
        self.refused(setup + ten + [fix(0, 0, 12)], fill(0, 1), -5)
        told = ask(setup + ten + [fix(0, 0, 12), fill(0, 1), state(), get(0, 1), sizes(0)])
        self.assertEqual(told[13:16], [[-5], [0, 51, 11, 64, 0, 0, 0, 0, 0], [0, 0, 0]])

    def test_nothing_to_fill_where_60_are_made(self):
        told = ask([add(0, [GAP] * 60), add(1, [5] * 60), fill(0, 1), fill(0, 1), fill(0, 0), fill(0, 3)])
        self.assertEqual(told[2:], [[0, 60], [0, 0], [0, 0], [0, 0]])

    def test_the_corrections_of_the_other_do_not_count(self):
        told = ask([add(0, [GAP, 0]), add(1, [5, 0])] + [fix(1, 1, k) for k in range(1, 61)] + [fill(0, 1), state()])
        self.assertEqual(told[-2:], [[0, 1], [0, 2, 1, 2, 60, 0, 0, 0, 0]])

    def test_the_same_series_twice(self):
        for setup in ([clear(0)], [add(0, [1, GAP, 3])], [add(0, [1, GAP, 3]), fix(0, 0, GAP)]):
            told = ask(setup + [coarse(0, 1), state(), fill(0, 0), coarse(0, 1), state()])
            self.assertEqual(told[-3], [0, 0])
            self.assertEqual(told[-2:], told[-5:-3])

    def test_a_reading_of_0_fills(self):
        self.told([add(0, [GAP]), add(1, [0]), fill(0, 1), get(0, 0)], [0, 1, 0])

    def test_not_as_told_is_told_first(self):
        for call in (fill(4, 1), fill(0, 4), fill(-1, 1), fill(0, -1)):
            self.refused([add(0, [GAP] * 64), add(1, [5] * 64)], call, -1)


if __name__ == "__main__":
    unittest.main()
