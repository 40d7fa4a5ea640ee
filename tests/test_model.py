"""Many made-up lists, each answered by the package as by the second archive in model.py."""

import itertools
import unittest

from tests import model
from tests.asking import GAP, TOP, add, ask, block, sizes


class Maker:
    """Made-up numbers, the same at every run."""

    def __init__(self, seed):
        self.state = seed

    def below(self, count):
        self.state = (self.state * 6364136223846793005 + 1442695040888963407) % 2 ** 64
        return (self.state >> 33) % count

    def among(self, choices):
        return choices[self.below(len(choices))]

    def value(self):
        kind = self.below(10)
        if kind < 2:
            return GAP
        if kind < 6:
            return self.below(5) - 2
        if kind < 8:
            return self.below(2001) - 1000
        if kind < 9:
            return self.below(2 * TOP + 1) - TOP
        return self.among((TOP, -TOP, 0, 1, -1))

    def wrong_or(self, number):
        if self.below(30):
            return number
        return self.among((-1, 401, TOP + 1, -TOP - 1, GAP - 1, GAP + 1, 10 ** 18, -10 ** 18, 31, 97, 101))

    def place(self):
        return self.wrong_or(self.among((self.below(6), self.below(40), self.below(401))))

    def call(self):
        number = self.among((0, 1, 1, 1, 1, 2, 2, 2, 2, 2, 2, 3, 4, 4, 4, 5, 6, 7, 8, 9, 10))
        if number == 0 and self.below(4):
            number = 1
        series = self.wrong_or(self.among((0, 0, 0, 1, 2, 3)))
        if number in (0, 9):
            return [number, series]
        if number == 1:
            count = self.among((1, 2, 5, 16, 17, 40, 64, 64, 64 + self.below(2) * self.below(3)))
            return add(series, [self.wrong_or(self.value()) if count < 4 else self.value() for k in range(count)])
        if number == 2:
            return [2, series, self.place(), self.wrong_or(self.value())]
        if number == 3:
            return [3, series, self.place()]
        if number == 4:
            return [4, series, self.place(), self.wrong_or(self.among((0, 1, 2, self.below(20), self.below(101))))]
        if number in (5, 6):
            start = self.place()
            return [number, series, start, self.wrong_or(start + self.below(30) - 3)]
        if number == 7:
            return [7, series, self.place(), self.wrong_or(self.among((self.value(), self.below(7) - 3)))]
        if number == 8:
            return [8, series, self.wrong_or(1 + self.below(self.among((6, 96))))]
        return [10, series, self.wrong_or(self.below(self.among((3, 31))))]


class AgainstTheModel(unittest.TestCase):
    maxDiff = None

    def same(self, calls):
        other = model.Model()
        told = ask(calls)
        for number, call in enumerate(calls):
            self.assertEqual(told[number], other.answer(call), (number, calls[:number + 1]))

    def test_made_up_lists(self):
        for seed in range(200):
            maker = Maker(seed)
            self.same([maker.call() for k in range(100)])

    def blocks_are_packed(self, blocks):
        """Many blocks, each in turn in its own list; four series hold four at once."""
        for start in range(0, len(blocks), 4):
            part = blocks[start:start + 4]
            calls = [add(s, part[s]) for s in range(len(part))]
            calls += [block(s, 0) for s in range(len(part))] + [sizes(s) for s in range(len(part))]
            self.same(calls)

    def test_all_short_blocks_of_few_values(self):
        values = (0, 1, -1, 2, -3, 40, -1000, GAP)
        blocks = [list(b) for count in (1, 2, 3, 4) for b in itertools.product(values, repeat=count)]
        self.blocks_are_packed(blocks)

    def test_blocks_of_great_values(self):
        values = (TOP, -TOP, 0, TOP - 1, GAP)
        blocks = [list(b) for count in (1, 2, 3, 4, 5) for b in itertools.product(values, repeat=count)]
        self.blocks_are_packed(blocks)

    def test_readings_at_the_ends_of_each_width(self):
        numbers = [sign * (2 ** k + d) for k in range(30) for d in (-1, 0, 1) for sign in (1, -1)]
        numbers = [n for n in numbers if -TOP <= n <= TOP]
        blocks = [[n] for n in numbers] + [[0, n] for n in numbers] + [[n, 0] for n in numbers]
        blocks += [[n] * 16 for n in numbers] + [[5, GAP, n, 2, n] for n in numbers]
        self.blocks_are_packed(blocks)

    def test_full_blocks_of_many_forms(self):
        blocks = []
        maker = Maker(99)
        for k in range(400):
            reach = maker.among((2, 5, 30, 1000, 10 ** 6, TOP))
            first = maker.below(2 * reach) - reach
            step = maker.below(9) - 4
            noise = maker.among((1, 2, 4, 60))
            hold = maker.among((1, 1, 3, 5))
            values = [first + step * (n // hold) + maker.below(noise) for n in range(9 + maker.below(8))]
            values = [max(-TOP, min(TOP, v)) for v in values]
            if maker.below(2):
                values[maker.below(len(values))] = GAP
            blocks.append(values)
        taken = [model.chosen([v for v in b if v != GAP]) for b in blocks]
        for code in range(4):
            self.assertGreater(taken.count(code), 10, code)
        self.blocks_are_packed(blocks)


if __name__ == "__main__":
    unittest.main()
