"""clear, add and fix: the calls 0 to 2."""

import unittest

from tests.asking import GAP, TOP, Asking, add, adds, ask, block, clear, coarse, fix, get, last, sizes, sum_of, was


def sixty_fixes():
    """Values for one place, each other than the one before it."""
    return [fix(0, 0, n) for n in range(1, 61)]


class Clear(Asking):
    def test_an_empty_series_is_cleared(self):
        for series in range(4):
            self.told([clear(series)], [0])

    def test_the_places_are_gone(self):
        told = ask([add(1, [5, GAP, 7]), clear(1), get(1, 0), sum_of(1, 0, 0), sizes(1), add(1, [9]), get(1, 0)])
        self.assertEqual(told[1:], [[0], [-4], [0, 0, 0], [0, 0, 0], [0, 1], [0, 1, 9]])

    def test_the_corrections_are_gone(self):
        told = ask([add(1, [5]), fix(1, 0, 6), clear(1), add(1, [7]), was(1, 0, 0), was(1, 0, 1), fix(1, 0, 8)])
        self.assertEqual(told[3:], [[0, 1], [0, 1, 7], [-6], [0, 1]])

    def test_a_full_series_takes_again(self):
        calls = adds(0, [1] * 400) + sixty_fixes()[1:] + [clear(0)] + adds(0, [1] * 400) + [fix(0, 399, GAP)]
        self.assertEqual(ask(calls)[-2:], [[0, 400], [0, 1]])

    def test_the_other_series_stay(self):
        calls = [add(s, [s + 10]) for s in range(4)] + [fix(s, 0, s + 20) for s in range(4)] + [clear(2)]
        told = ask(calls + [get(s, 0) for s in range(4)] + [was(s, 0, 0) for s in range(4)])
        self.assertEqual(told[9:], [[0, 1, 20], [0, 1, 21], [-4], [0, 1, 23],
                                    [0, 1, 10], [0, 1, 11], [-4], [0, 1, 13]])


class Add(Asking):
    def test_answers_how_many_places_there_are_then(self):
        told = ask([add(0, [5]), add(0, [6, 7]), add(0, [GAP] * 64)])
        self.assertEqual(told, [[0, 1], [0, 3], [0, 67]])

    def test_the_values_stand_behind_in_their_order(self):
        told = ask([add(3, [4, GAP]), add(3, [-TOP, TOP, 0]), coarse(3, 1)])
        self.assertEqual(told[-1], [0, 10, 1, 4, 0, 0, 1, -TOP, 1, TOP, 1, 0])

    def test_rows_of_1_and_of_64(self):
        self.told([add(0, [GAP])], [0, 1])
        self.told([add(0, list(range(64))), coarse(0, 64)], [0, 2, 1, 2016])

    def test_rows_too_short_or_too_long(self):
        for count in (0, 65, 66, 249, 250):
            self.refused([add(0, [1, 2])], add(0, [3] * count), -1)

    def test_numbers_that_are_no_values(self):
        for wrong in (TOP + 1, -TOP - 1, GAP - 1, GAP + 1, -GAP, 10 ** 18, -10 ** 18):
            for row in ([wrong], [wrong, 1, 2], [1, wrong, 2], [1, 2, wrong], [1] * 63 + [wrong]):
                self.refused([add(0, [1, 2])], add(0, row), -1)

    def test_a_wrong_row_ends_where_its_count_says(self):
        told = ask([add(0, []), add(0, [1] * 250), add(0, [0, 3 * TOP, 1]), add(0, [8]), get(0, 0)])
        self.assertEqual(told, [[-1], [-1], [-1], [0, 1], [0, 1, 8]])

    def test_exactly_400_places_and_one_more(self):
        full = adds(2, list(range(400)))
        self.told(full, [0, 400])
        self.refused(full, add(2, [1]), -5)
        self.refused(full, add(2, [GAP] * 64), -5)
        self.told(full + [add(2, [1]), get(2, 399)], [0, 1, 399])
        self.told(full + [add(2, [1]), get(2, 400)], [-4])

    def test_none_of_a_row_is_taken_where_it_goes_beyond(self):
        nearly = adds(0, [7] * 399)
        self.refused(nearly, add(0, [1, 2]), -5)
        self.told(nearly + [add(0, [1, 2]), add(0, [3])], [0, 400])
        self.told(adds(0, [7] * 336) + [add(0, [1] * 64)], [0, 400])
        self.refused(adds(0, [7] * 337), add(0, [1] * 64), -5)

    def test_a_wrong_row_is_told_ahead_of_full(self):
        full = adds(0, [7] * 400)
        self.refused(full, add(0, []), -1)
        self.refused(full, add(0, [1] * 65), -1)
        self.refused(full, add(0, [TOP + 1]), -1)

    def test_a_full_series_leaves_the_others_free(self):
        self.told(adds(0, [7] * 400) + [add(1, [5])], [0, 1])

    def test_places_added_behind_corrections(self):
        told = ask([add(0, [1]), fix(0, 0, 2), add(0, [3]), was(0, 1, 0), was(0, 0, 0), get(0, 0), fix(0, 1, 4)])
        self.assertEqual(told[3:], [[0, 1, 3], [0, 1, 1], [0, 1, 2], [0, 2]])


class Fix(Asking):
    def test_answers_its_number(self):
        told = ask([add(0, [1, 2, 3]), fix(0, 2, 9), fix(0, 0, 8), fix(0, 2, 7), coarse(0, 1)])
        self.assertEqual(told[1:], [[0, 1], [0, 2], [0, 3], [0, 6, 1, 8, 1, 2, 1, 7]])

    def test_corrections_are_numbered_series_by_series(self):
        told = ask([add(0, [1]), add(3, [1]), fix(0, 0, 2), fix(3, 0, 2), fix(3, 0, 3), fix(0, 0, 5)])
        self.assertEqual(told[2:], [[0, 1], [0, 1], [0, 2], [0, 2]])

    def test_from_and_to_a_gap(self):
        told = ask([add(0, [GAP, 0]), fix(0, 0, 0), get(0, 0), fix(0, 1, GAP), get(0, 1), fix(0, 0, GAP), get(0, 0)])
        self.assertEqual(told[1:], [[0, 1], [0, 1, 0], [0, 2], [0, 0, 0], [0, 3], [0, 0, 0]])

    def test_the_ends_of_the_readings(self):
        told = ask([add(0, [0]), fix(0, 0, TOP), get(0, 0), fix(0, 0, -TOP), get(0, 0)])
        self.assertEqual(told[1:], [[0, 1], [0, 1, TOP], [0, 2], [0, 1, -TOP]])

    def test_no_such_place(self):
        for place in (0, 1, 399, 400):
            self.refused([clear(1)], fix(1, place, 5), -4)
        for place in (3, 4, 400):
            self.refused([add(1, [1, 2, 3])], fix(1, place, 5), -4)
        self.told([add(1, [1, 2, 3]), fix(1, 2, 5)], [0, 1])
        self.refused(adds(1, [1] * 400), fix(1, 400, 5), -4)
        self.told(adds(1, [1] * 400) + [fix(1, 399, 5)], [0, 1])

    def test_what_stands_there_already(self):
        self.refused([add(0, [5, 6])], fix(0, 0, 5), -7)
        self.refused([add(0, [5, GAP])], fix(0, 1, GAP), -7)
        self.refused([add(0, [5]), fix(0, 0, 6)], fix(0, 0, 6), -7)
        self.refused([add(0, [5]), fix(0, 0, GAP)], fix(0, 0, GAP), -7)

    def test_back_to_what_was_added(self):
        self.told([add(0, [5]), fix(0, 0, 6), fix(0, 0, 5)], [0, 2])
        self.told([add(0, [0]), fix(0, 0, GAP)], [0, 1])

    def test_60_corrections_and_one_more(self):
        told = ask([add(0, [0, 0])] + sixty_fixes())
        self.assertEqual(told[1:], [[0, n] for n in range(1, 61)])
        self.assertEqual(last([add(0, [0, 0])] + sixty_fixes() + [fix(0, 0, 61)]), [-5])
        self.assertEqual(last([add(0, [0, 0])] + sixty_fixes() + [fix(0, 1, 61)]), [-5])

    def test_the_61st_leaves_everything(self):
        look = [get(0, 0), get(0, 1), was(0, 0, 60), was(0, 0, 61), was(0, 0, 59), sizes(0), block(0, 0)]
        calls = [add(0, [0, 0])] + sixty_fixes()
        self.assertEqual(ask(calls + [fix(0, 1, 61)] + look)[62:], ask(calls + look)[61:])

    def test_which_refusal_is_told_first(self):
        full = [add(0, [0, 0])] + sixty_fixes()
        self.assertEqual(last(full + [fix(0, 0, 60)]), [-7])
        self.assertEqual(last(full + [fix(0, 1, 0)]), [-7])
        self.assertEqual(last(full + [fix(0, 2, 0)]), [-4])
        self.assertEqual(last(full + [fix(0, 0, TOP + 1)]), [-1])
        self.assertEqual(last(full + [fix(0, 401, 5)]), [-1])
        self.refused([add(0, [0])], fix(0, 9, GAP + 1), -1)

    def test_refused_corrections_count_for_nothing(self):
        told = ask([add(0, [1]), fix(0, 0, 1), fix(0, 5, 1), fix(0, 0, -TOP - 1), fix(0, 0, 2), was(0, 0, 1)])
        self.assertEqual(told[1:], [[-7], [-4], [-1], [0, 1], [0, 1, 2]])

    def test_a_full_series_leaves_the_others_free(self):
        self.told([add(0, [0]), add(1, [0])] + sixty_fixes() + [fix(1, 0, 5)], [0, 1])


if __name__ == "__main__":
    unittest.main()
