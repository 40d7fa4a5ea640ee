"""trim, history and state: the calls 18 to 20."""

import unittest

from tests.asking import (GAP, TOP, Asking, add, adds, ask, block, clear, coarse, codes, copy, differ, fill, fix, gamma,
                          get, history, load, seek, sizes, span, state, sum_of, told_values, trim, unpack, was)


class Trim(Asking):
    setup = [add(1, [10, 20, GAP, 40]), fix(1, 3, 41), fix(1, 0, 11), fix(1, 2, 31), fix(1, 0, GAP), fix(1, 1, 21)]

    def test_n_of_0(self):
        told = ask(self.setup + [trim(1, 0), state(), get(1, 0), coarse(1, 1), add(1, [7]), was(1, 0, 0), was(1, 0, 1),
                                 fix(1, 0, 8)])[6:]
        self.assertEqual(told, [[0], [0] * 9, [-4], [0, 0], [0, 1], [0, 1, 7], [-6], [0, 1]])

    def test_n_of_the_count_of_places(self):
        look = [state(), coarse(1, 1)] + [history(1, place) for place in range(5)] + [was(1, 0, n) for n in range(7)]
        told = ask(self.setup + [trim(1, 4)] + look)
        self.assertEqual(told[6], [0])
        self.assertEqual(told[7:], ask(self.setup + look)[6:])

    def test_one_more(self):
        self.refused(self.setup, trim(1, 5), -4)
        self.refused(self.setup, trim(1, 400), -4)
        self.refused([clear(1)], trim(1, 1), -4)
        self.told([trim(1, 0)], [0])

    def test_some_places_go(self):
        told = ask(self.setup + [trim(1, 2), coarse(1, 1), get(1, 1), get(1, 2), sum_of(1, 0, 2), sum_of(1, 0, 3),
                                 seek(1, 0, 0), sizes(1)])[6:]
        self.assertEqual(told[:6], [[0], [0, 4, 0, 0, 1, 21], [0, 1, 21], [-4], [0, 1, 21], [-4]])
        self.assertEqual(told[6:], ask([add(0, [GAP, 21]), seek(0, 0, 0), sizes(0)])[1:])

    def test_corrections_that_go_and_that_stay(self):
        told = ask(self.setup + [trim(1, 2), state()] + [was(1, 0, n) for n in range(5)]
                   + [was(1, 1, n) for n in range(4)] + [history(1, 0), history(1, 1), history(1, 2), fix(1, 1, 22)])[7:]
        self.assertEqual(told[0], [0, 0, 0, 2, 3, 0, 0, 0, 0])
        self.assertEqual(told[1:6], [[0, 1, 10], [0, 1, 11], [0, 0, 0], [0, 0, 0], [-6]])
        self.assertEqual(told[6:10], [[0, 1, 20], [0, 1, 20], [0, 1, 20], [0, 1, 21]])
        self.assertEqual(told[10:], [[0, 6, 1, 10, 1, 11, 0, 0], [0, 4, 1, 20, 1, 21], [-4], [0, 4]])

    def test_all_corrections_go_or_none(self):
        told = ask([add(0, [1, 2, 3]), fix(0, 2, 9), fix(0, 2, 8), trim(0, 2), state(), fix(0, 0, 5)])
        self.assertEqual(told[3:], [[0], [0, 2, 0, 0, 0, 0, 0, 0, 0], [0, 1]])
        told = ask([add(0, [1, 2, 3]), fix(0, 0, 9), fix(0, 1, 8), trim(0, 2), state(), fix(0, 0, 5)])
        self.assertEqual(told[3:], [[0], [0, 2, 2, 0, 0, 0, 0, 0, 0], [0, 3]])

    def test_adding_behind_it(self):
        told = ask(self.setup + [trim(1, 2), add(1, [50, GAP]), coarse(1, 1), history(1, 2), was(1, 2, 3), fix(1, 3, 6),
                                 history(1, 3), state()])[7:]
        self.assertEqual(told, [[0, 4], [0] + told_values([GAP, 21, 50, GAP]), [0, 2, 1, 50], [0, 1, 50], [0, 4],
                                [0, 4, 0, 0, 1, 6], [0, 0, 0, 4, 4, 0, 0, 0, 0]])

    def test_full_series_take_again(self):
        calls = adds(0, [GAP] * 400) + adds(1, [5] * 60) + [fill(0, 1), fix(0, 0, 6), add(0, [1]), trim(0, 59)]
        told = ask(calls + [state(), fix(0, 0, 6), fix(0, 1, 6), add(0, [1] * 64), load(0, [24])])[8:]
        self.assertEqual(told, [[0, 60], [-5], [-5], [0], [0, 59, 59, 60, 0, 0, 0, 0, 0], [0, 60], [-5], [0, 123],
                                [0, 125]])

    def test_of_a_full_series(self):
        full = adds(0, list(range(400)))
        self.told(full + [trim(0, 400), state()], [0, 400, 0, 0, 0, 0, 0, 0, 0])
        self.told(full + [trim(0, 399), state()], [0, 399, 0, 0, 0, 0, 0, 0, 0])
        self.refused(full, trim(0, 401), -1)

    def test_the_other_series_stay(self):
        for s in range(4):
            calls = [add(t, [10 + t, 20 + t]) for t in range(4)] + [fix(t, 1, t) for t in range(4)] + [trim(s, 1)]
            told = ask(calls + [state()] + [coarse(t, 1) for t in range(4)])[9:]
            self.assertEqual(told[0], [0] + [n for t in range(4) for n in ((1, 0) if t == s else (2, 1))])
            self.assertEqual(told[1:], [[0, 2, 1, 10 + t] if t == s else [0, 4, 1, 10 + t, 1, t] for t in range(4)])


class History(Asking):
    setup = [add(2, [10, GAP, 30]), fix(2, 0, 11), fix(2, 1, 21), fix(2, 0, GAP), fix(2, 1, GAP), fix(2, 0, 10)]

    def test_a_place_without_corrections(self):
        self.told(self.setup + [history(2, 2)], [0, 2, 1, 30])
        self.told([add(0, [GAP]), history(0, 0)], [0, 2, 0, 0])
        self.told([add(0, [0]), history(0, 0)], [0, 2, 1, 0])

    def test_a_place_with_several(self):
        self.told(self.setup + [history(2, 0)], [0, 8, 1, 10, 1, 11, 0, 0, 1, 10])

    def test_gaps_among_them(self):
        self.told(self.setup + [history(2, 1)], [0, 6, 0, 0, 1, 21, 0, 0])

    def test_corrections_that_fill_made(self):
        told = ask([add(0, [GAP, 1]), add(1, [-TOP, TOP]), fill(0, 1), fix(0, 0, TOP), history(0, 0), history(0, 1)])
        self.assertEqual(told[4:], [[0, 6, 0, 0, 1, -TOP, 1, TOP], [0, 2, 1, 1]])

    def test_places_added_later(self):
        told = ask(self.setup + [add(2, [7]), history(2, 3), fix(2, 3, 8), history(2, 3), history(2, 0)])[7:]
        self.assertEqual(told, [[0, 2, 1, 7], [0, 6], [0, 4, 1, 7, 1, 8], [0, 8, 1, 10, 1, 11, 0, 0, 1, 10]])

    def test_sixty_corrections(self):
        told = ask([add(0, [0])] + [fix(0, 0, k) for k in range(1, 61)] + [history(0, 0)])[-1]
        self.assertEqual(told, [0] + told_values(list(range(61))))

    def test_no_such_place(self):
        for place in (3, 4, 400):
            self.refused(self.setup, history(2, place), -4)
        self.refused([clear(0)], history(0, 0), -4)
        self.refused(adds(0, [1] * 400), history(0, 400), -4)
        self.told(adds(0, [1] * 399 + [2]) + [history(0, 399)], [0, 2, 1, 2])

    def test_the_four_series_stand_apart(self):
        told = ask([add(s, [s]) for s in range(4)] + [fix(3, 0, 9)] + [history(s, 0) for s in range(4)])[5:]
        self.assertEqual(told, [[0, 2, 1, 0], [0, 2, 1, 1], [0, 2, 1, 2], [0, 4, 1, 3, 1, 9]])


class State(Asking):
    def test_at_the_beginning(self):
        self.told([state()], [0, 0, 0, 0, 0, 0, 0, 0, 0])

    def test_behind_each_call_that_changes_something(self):
        steps = ((add(0, [1, GAP, 3]), [3, 0, 0, 0, 0, 0, 0, 0]),
                 (add(3, [4, 5]), [3, 0, 0, 0, 0, 0, 2, 0]),
                 (fix(0, 2, 6), [3, 1, 0, 0, 0, 0, 2, 0]),
                 (load(2, [4, 44]), [3, 1, 0, 0, 1, 0, 2, 0]),
                 (load(2, [242, 60, 0]), [3, 1, 0, 0, 17, 0, 2, 0]),
                 (fill(0, 3), [3, 2, 0, 0, 17, 0, 2, 0]),
                 (copy(0, 1), [3, 2, 3, 2, 17, 0, 2, 0]),
                 (trim(0, 2), [2, 1, 3, 2, 17, 0, 2, 0]),
                 (trim(2, 16), [2, 1, 3, 2, 16, 0, 2, 0]),
                 (clear(1), [2, 1, 0, 0, 16, 0, 2, 0]),
                 (copy(1, 0), [0, 0, 0, 0, 16, 0, 2, 0]),
                 (fix(3, 0, GAP), [0, 0, 0, 0, 16, 0, 2, 1]))
        told = ask([call for step in steps for call in (step[0], state())])
        for number, (call, counts) in enumerate(steps):
            self.assertEqual(told[2 * number][0], 0, call)
            self.assertEqual(told[2 * number + 1], [0] + counts, call)

    def test_full_series(self):
        calls = [call for s in range(3) for call in adds(s, [GAP] * 400)] + [add(3, [1] * 60)]
        told = ask(calls + [fill(s, 3) for s in range(3)] + [state()])
        self.assertEqual(told[-1], [0, 400, 60, 400, 60, 400, 60, 60, 0])

    def test_no_other_call_changes_anything(self):
        setup = [add(0, [1, GAP, 3] * 7), fix(0, 0, 5), fix(0, 1, 7), add(1, [9, 8]), fix(1, 1, GAP)]
        asking = [get(0, 1), was(0, 1, 1), sum_of(0, 0, 21), span(0, 0, 21), seek(0, 0, 6), coarse(0, 2), sizes(0),
                  block(0, 0), block(0, 1), unpack([4, 44]), unpack([4]), codes([1, 2, GAP]), gamma(5),
                  differ(0, 1, 0), differ(1, 0, 400), history(0, 1), state()]
        look = [state(), coarse(0, 1), coarse(1, 1), history(0, 0), history(0, 1), was(0, 0, 0), was(0, 1, 1),
                history(1, 1), fix(0, 2, GAP), fix(1, 0, 5), add(0, [1]), add(1, [1]), add(2, [1]), state()]
        expected = ask(setup + look)[5:]
        for call in asking:
            told = ask(setup + [call] + look)
            self.assertEqual(told[5][0], 0, call)
            self.assertEqual(told[6:], expected, call)


if __name__ == "__main__":
    unittest.main()
