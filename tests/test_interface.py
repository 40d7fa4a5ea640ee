"""What the interface says of answers itself."""

import builtins
import contextlib
import io
import sys
import unittest
from unittest import mock

from packedreadings.archive import answers
from tests.asking import GAP, TOP, add, adds, ask, block, clear, coarse, fix, get, parted, seek, sizes, span, sum_of, was


def flat(calls):
    return [number for call in calls for number in call]


def one_of_each():
    return flat([add(0, [5, GAP, -7] * 7), fix(0, 0, 6), get(0, 0), was(0, 0, 0), sum_of(0, 0, 21), span(0, 0, 21),
                 seek(0, 0, 6), coarse(0, 3), sizes(0), block(0, 0), block(0, 2), clear(0), get(9, 9)])


class Unchanged(list):
    """A list that takes no change, not for a while either."""

    def refuse(self, *args, **named):
        raise AssertionError("what is handed in was changed")

    append = extend = insert = pop = remove = clear = sort = reverse = refuse
    __setitem__ = __delitem__ = __iadd__ = __imul__ = refuse


class Interface(unittest.TestCase):
    maxDiff = None

    def test_answers_stand_behind_their_counts(self):
        told = answers([1, 2, 2, 5, GAP, 3, 2, 0, 3, 2, 1, 3, 2, 2, 0, 2, 3, 2, 0])
        self.assertEqual(told, [2, 0, 2, 3, 0, 1, 5, 3, 0, 0, 0, 1, -4, 1, 0, 1, -4])

    def test_rows_have_their_counts(self):
        self.assertEqual(answers([9, 0]), [3, 0, 0, 0])
        self.assertEqual(answers([8, 0, 1]), [2, 0, 0])
        self.assertEqual(answers([1, 0, 2, 4, 5, 8, 0, 1]), [2, 0, 2, 6, 0, 4, 1, 4, 1, 5])
        self.assertEqual(answers([1, 0, 1, 5, 9, 0]), [2, 0, 1, 4, 0, 14, 1, 14])

    def test_one_call(self):
        self.assertEqual(answers([0, 0]), [1, 0])
        self.assertEqual(answers([0, 4]), [1, -1])
        self.assertEqual(answers([1, 0, 0]), [1, -1])

    def test_a_list_of_whole_numbers_comes_back(self):
        told = answers(one_of_each())
        self.assertIs(type(told), list)
        self.assertEqual({type(number) for number in told}, {int})

    def test_a_hundred_calls(self):
        calls = [add(k % 4, [k, -k]) for k in range(50)] + [sum_of(k % 4, 0, k // 4) for k in range(50)]
        told = ask(calls)
        self.assertEqual(told[:50], [[0, 2 * (k // 4 + 1)] for k in range(50)])
        self.assertEqual(told[50], [0, 0, 0])
        self.assertEqual(told[50 + 47], [0, 11, 23])

    def test_a_long_list(self):
        calls = [add(0, [k] * 250) for k in range(61)] + [add(1, [k] * 10) for k in range(38)] + [sum_of(1, 0, 380)]
        self.assertEqual((len(calls), len(flat(calls))), (100, 15931))
        told = ask(calls)
        self.assertEqual(told[:61], [[-1]] * 61)
        self.assertEqual(told[-1], [0, 380, 10 * sum(range(38))])

    def test_long_answers(self):
        told = ask(adds(0, [TOP, -TOP] * 200) + [coarse(0, 1) for k in range(90)])
        self.assertEqual(told[7:], [[0, 800] + [1, TOP, 1, -TOP] * 200] * 90)

    def test_no_deep_nesting(self):
        calls = flat(adds(0, list(range(400))) + [block(0, k) for k in range(25)] + [sizes(0), coarse(0, 1)])
        depth = 0
        frame = sys._getframe()
        while frame is not None:
            depth += 1
            frame = frame.f_back
        limit = sys.getrecursionlimit()
        expected = answers(calls)
        sys.setrecursionlimit(depth + 40)
        try:
            told = answers(calls)
        finally:
            sys.setrecursionlimit(limit)
        self.assertEqual(told, expected)

    def test_what_is_handed_in_stays(self):
        calls = one_of_each()
        before = list(calls)
        answers(calls)
        self.assertEqual(calls, before)
        self.assertEqual(answers(Unchanged(calls)), answers(before))

    def test_what_comes_back_is_nothing_that_was_handed_in(self):
        calls = [0, 0]
        told = answers(calls)
        told.append(5)
        self.assertEqual(calls, [0, 0])

    def test_the_same_list_twice(self):
        calls = one_of_each()
        self.assertEqual(answers(calls), answers(calls))

    def test_nothing_is_kept(self):
        fresh = ask([get(0, 0), sizes(0), add(0, [1]), fix(0, 0, 2)])
        ask(adds(0, [1] * 400) + [fix(0, 0, n) for n in range(2, 62)])
        self.assertEqual(ask([get(0, 0), sizes(0), add(0, [1]), fix(0, 0, 2)]), fresh)
        self.assertEqual(fresh, [[-4], [0, 0, 0], [0, 1], [0, 1]])

    def test_changed_answers_change_nothing_later(self):
        calls = one_of_each()
        told = answers(calls)
        expected = list(told)
        for k in range(len(told)):
            told[k] = 77
        self.assertEqual(answers(calls), expected)

    def test_all_series_are_empty_at_the_beginning(self):
        told = ask([sizes(s) for s in range(4)] + [coarse(s, 1) for s in range(4)] + [add(s, [1]) for s in range(4)])
        self.assertEqual(told, [[0, 0, 0]] * 4 + [[0, 0]] * 4 + [[0, 1]] * 4)

    def test_nothing_is_printed_read_or_imported(self):
        def refuse(*args, **named):
            raise AssertionError("nothing of this is asked for")

        calls = one_of_each()
        expected = answers(calls)
        out = io.StringIO()
        with contextlib.redirect_stdout(out), contextlib.redirect_stderr(out):
            with mock.patch.object(builtins, "__import__", refuse), mock.patch.object(builtins, "open", refuse):
                with mock.patch.object(builtins, "print", refuse), mock.patch.object(builtins, "input", refuse):
                    told = answers(calls)
        self.assertEqual(told, expected)
        self.assertEqual(out.getvalue(), "")

    def test_series_stand_apart_under_every_change(self):
        for s in range(4):
            others = [t for t in range(4) if t != s]
            calls = [add(t, [10 + t, 20 + t]) for t in range(4)]
            calls += [add(s, [1, 2]), fix(s, 0, 3), fix(s, 1, GAP), clear(s), add(s, [9])]
            told = ask(calls + [coarse(t, 1) for t in others] + [fix(t, 0, 0) for t in others])
            self.assertEqual(told[9:12], [[0, 4, 1, 10 + t, 1, 20 + t] for t in others])
            self.assertEqual(told[12:], [[0, 1]] * 3)

    def test_the_answers_part_again(self):
        self.assertEqual(len(parted(answers(one_of_each()))), 13)


if __name__ == "__main__":
    unittest.main()
