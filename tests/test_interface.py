"""What the interface says of answers itself."""

import builtins
import contextlib
import io
import sys
import unittest
from unittest import mock

from packedreadings.archive import answers
from tests.asking import (GAP, TOP, add, adds, ask, block, clear, coarse, codes, copy, differ, fill, fix, gamma, get,
                          history, load, parted, seek, sizes, span, state, sum_of, told_values, trim, unpack, was)
from tests.maker import Maker


def flat(calls):
    return [number for call in calls for number in call]


def one_of_each():
    return flat([add(0, [5, GAP, -7] * 7), fix(0, 0, 6), get(0, 0), was(0, 0, 0), sum_of(0, 0, 21), span(0, 0, 21),
                 seek(0, 0, 6), coarse(0, 3), sizes(0), block(0, 0), block(0, 2), unpack([242, 60, 0]), unpack([4]),
                 load(1, [242, 60, 0]), load(1, []), codes([5, GAP]), gamma(5), copy(0, 2), differ(0, 1, 0), fill(0, 1),
                 trim(0, 9), history(0, 1), state(), clear(0), get(9, 9)])


class Unchanged(list):
    """A list that takes no change, not for a while either."""

    def refuse(self, *args, **named):
        raise AssertionError("what is handed in was changed")

    append = extend = insert = pop = remove = clear = sort = reverse = refuse
    __setitem__ = __delitem__ = __iadd__ = __imul__ = refuse


class Interface(unittest.TestCase):
    maxDiff = None

    def test_answers_stand_behind_their_counts(self):
        told = answers([1, 2, 2, 5, GAP, 3, 2, 0, 3, 2, 1, 3, 2, 2, 0, 2, 3, 2, 0])
        self.assertEqual(told, [2, 0, 2, 3, 0, 1, 5, 3, 0, 0, 0, 1, -4, 1, 0, 1, -4])

    def test_rows_have_their_counts(self):
        self.assertEqual(answers([9, 0]), [3, 0, 0, 0])
        self.assertEqual(answers([8, 0, 1]), [2, 0, 0])
        self.assertEqual(answers([1, 0, 2, 4, 5, 8, 0, 1]), [2, 0, 2, 6, 0, 4, 1, 4, 1, 5])
        self.assertEqual(answers([1, 0, 1, 5, 9, 0]), [2, 0, 1, 4, 0, 14, 1, 14])

    def test_one_call(self):
        self.assertEqual(answers([0, 0]), [1, 0])
        self.assertEqual(answers([0, 4]), [1, -1])
        self.assertEqual(answers([1, 0, 0]), [1, -1])

    def test_a_list_of_whole_numbers_comes_back(self):
        told = answers(one_of_each())
        self.assertIs(type(told), list)
        self.assertEqual({type(number) for number in told}, {int})

    def test_answers_of_the_later_calls(self):
        self.assertEqual(answers([20]), [9, 0, 0, 0, 0, 0, 0, 0, 0, 0])
        self.assertEqual(answers([11, 0]), [2, 0, 1])
        self.assertEqual(answers([11, 2, 4, 44]), [5, 0, 0, 2, 1, 5])
        self.assertEqual(answers([12, 3, 1, 24, 20]), [2, 0, 2, 9, 0, 0, 0, 0, 0, 0, 0, 2, 0])
        self.assertEqual(answers([13, 1, 5]), [6, 0, 2, 9, 13, 7, 8])
        self.assertEqual(answers([14, 2]), [5, 0, 3, 0, 1, 0])
        self.assertEqual(answers([15, 0, 1, 15, 1, 1]), [1, 0, 1, -6])
        self.assertEqual(answers([16, 0, 1, 400]), [2, 0, -1])
        self.assertEqual(answers([17, 0, 1]), [2, 0, 0])
        self.assertEqual(answers([18, 0, 0, 18, 0, 1]), [1, 0, 1, -4])
        self.assertEqual(answers([12, 0, 1, 24, 19, 0, 1, 19, 0, 2]), [2, 0, 2, 4, 0, 2, 0, 0, 1, -4])

    def test_a_call_behind_one_that_begins_with_its_row(self):
        told = ask([unpack([]), state(), codes([1]), state(), unpack([20, 20, 20]), state(), state(), add(0, [20]),
                    state()])
        self.assertEqual([told[1], told[3], told[5], told[6], told[8]], [[0] * 9] * 4 + [[0, 1] + [0] * 7])

    def test_a_hundred_calls(self):
        calls = [add(k % 4, [k, -k]) for k in range(50)] + [sum_of(k % 4, 0, k // 4) for k in range(50)]
        told = ask(calls)
        self.assertEqual(told[:50], [[0, 2 * (k // 4 + 1)] for k in range(50)])
        self.assertEqual(told[50], [0, 0, 0])
        self.assertEqual(told[50 + 47], [0, 11, 23])

    def test_a_long_list(self):
        calls = [add(0, [k] * 250) for k in range(61)] + [add(1, [k] * 10) for k in range(38)] + [sum_of(1, 0, 380)]
        self.assertEqual((len(calls), len(flat(calls))), (100, 15931))
        told = ask(calls)
        self.assertEqual(told[:61], [[-1]] * 61)
        self.assertEqual(told[-1], [0, 380, 10 * sum(range(38))])

    def test_long_answers(self):
        told = ask(adds(0, [TOP, -TOP] * 200) + [coarse(0, 1) for k in range(90)])
        self.assertEqual(told[7:], [[0, 800] + [1, TOP, 1, -TOP] * 200] * 90)

    def test_no_deep_nesting(self):
        calls = flat(adds(0, list(range(400))) + [block(0, k) for k in range(25)] + [sizes(0), coarse(0, 1)]
                     + [unpack([0] * 200), unpack([242, 60, 0]), copy(0, 1), add(2, [GAP] * 60), fill(2, 0),
                        differ(0, 1, 0), trim(0, 3), history(2, 5), gamma(2 ** 32), codes([TOP, -TOP] * 8)])
        depth = 0
        frame = sys._getframe()
        while frame is not None:
            depth += 1
            frame = frame.f_back
        limit = sys.getrecursionlimit()
        expected = answers(calls)
        sys.setrecursionlimit(depth + 40)
        try:
            told = answers(calls)
        finally:
            sys.setrecursionlimit(limit)
        self.assertEqual(told, expected)

    def test_what_is_handed_in_stays(self):
        calls = one_of_each()
        before = list(calls)
        answers(calls)
        self.assertEqual(calls, before)
        self.assertEqual(answers(Unchanged(calls)), answers(before))

    def test_what_comes_back_is_nothing_that_was_handed_in(self):
        calls = [0, 0]
        told = answers(calls)
        told.append(5)
        self.assertEqual(calls, [0, 0])

    def test_the_same_list_twice(self):
        calls = one_of_each()
        self.assertEqual(answers(calls), answers(calls))

    def test_made_up_lists_stay_and_answer_the_same_twice(self):
        for seed in range(1000, 1030):
            maker = Maker(seed)
            calls = flat([maker.call() for k in range(100)])
            before = list(calls)
            first = answers(calls)
            self.assertEqual(answers(Unchanged(calls)), first)
            self.assertEqual(answers(calls), first)
            self.assertEqual(calls, before)

    def test_nothing_is_kept(self):
        calls = [get(0, 0), sizes(0), state(), add(0, [1]), fix(0, 0, 2)]
        fresh = ask(calls)
        ask(adds(0, [1] * 400) + [fix(0, 0, n) for n in range(2, 62)] + [copy(0, 1), load(2, [24])])
        self.assertEqual(ask(calls), fresh)
        self.assertEqual(fresh, [[-4], [0, 0, 0], [0] * 9, [0, 1], [0, 1]])

    def test_changed_answers_change_nothing_later(self):
        calls = one_of_each()
        told = answers(calls)
        expected = list(told)
        for k in range(len(told)):
            told[k] = 77
        self.assertEqual(answers(calls), expected)

    def test_all_series_are_empty_at_the_beginning(self):
        told = ask([sizes(s) for s in range(4)] + [coarse(s, 1) for s in range(4)] + [add(s, [1]) for s in range(4)])
        self.assertEqual(told, [[0, 0, 0]] * 4 + [[0, 0]] * 4 + [[0, 1]] * 4)

    def test_nothing_is_printed_read_or_imported(self):
        def refuse(*args, **named):
            raise AssertionError("nothing of this is asked for")

        calls = one_of_each()
        expected = answers(calls)
        out = io.StringIO()
        with contextlib.redirect_stdout(out), contextlib.redirect_stderr(out):
            with mock.patch.object(builtins, "__import__", refuse), mock.patch.object(builtins, "open", refuse):
                with mock.patch.object(builtins, "print", refuse), mock.patch.object(builtins, "input", refuse):
                    told = answers(calls)
        self.assertEqual(told, expected)
        self.assertEqual(out.getvalue(), "")

    def test_series_stand_apart_under_every_change(self):
        for s in range(4):
            others = [t for t in range(4) if t != s]
            calls = [add(t, [10 + t, 20 + t]) for t in range(4)]
            calls += [add(s, [1, 2]), fix(s, 0, 3), fix(s, 1, GAP), load(s, [24]), fill(s, others[0]), trim(s, 1),
                      clear(s), add(s, [9]), copy(others[1], s), fix(s, 1, 7)]
            told = ask(calls + [state()] + [coarse(t, 1) for t in others] + [fix(t, 0, 0) for t in others])[14:]
            self.assertEqual(told[0], [0] + [number for t in range(4) for number in (2, int(t == s))])
            self.assertEqual(told[1:4], [[0] + told_values([10 + t, 20 + t]) for t in others])
            self.assertEqual(told[4:], [[0, 1]] * 3)

    def test_the_answers_part_again(self):
        told = parted(answers(one_of_each()))
        self.assertEqual(len(told), 25)
        self.assertEqual([answer[0] for answer in told if answer[0] < 0], [-4, -3, -1])


if __name__ == "__main__":
    unittest.main()
