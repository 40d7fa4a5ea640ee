"""Many made-up lists, each answered by the package as by the second archive in model.py."""

import itertools
import unittest

from tests import model
from tests.asking import GAP, TOP, add, ask, block, codes, load, sizes, state, unpack
from tests.maker import Maker

# Each call's place with each first number that is told for it.
TOLD = {0: (0, -1), 1: (0, -1, -5), 2: (0, -1, -4, -7, -5), 3: (0, -1, -4), 4: (0, -1, -4, -6), 5: (0, -1, -4),
        6: (0, -1, -4, -8), 7: (0, -1, -4, -8), 8: (0, -1), 9: (0, -1), 10: (0, -1, -4), 11: (0, -1),
        12: (0, -1, -3, -5), 13: (0, -1, -8), 14: (0, -1), 15: (0, -1, -6), 16: (0, -1), 17: (0, -1, -5),
        18: (0, -1, -4), 19: (0, -1, -4), 20: (0,)}


class AgainstTheModel(unittest.TestCase):
    maxDiff = None

    def same(self, calls):
        other = model.Model()
        told = ask(calls)
        for number, call in enumerate(calls):
            expected = other.answer(call)
            if told[number] != expected:
                self.assertEqual(told[number], expected, (number, calls[:number + 1]))
        return told

    def test_made_up_lists(self):
        counts = {(number, first): 0 for number in TOLD for first in TOLD[number]}
        for seed in range(300):
            maker = Maker(seed)
            calls = maker.nearly_full() if seed % 4 == 0 else []
            calls += [maker.call() for k in range(99 - len(calls))] + [state()]
            for call, answer in zip(calls, self.same(calls)):
                counts[(call[0], answer[0])] += 1
        self.assertEqual([pair for pair in counts if counts[pair] < 5], [], counts)

    def rows_are_read(self, rows):
        """Many rows of bytes, a hundred in a list; answers how many of them each first number behind the 0 has."""
        counts = [0] * 5
        for start in range(0, len(rows), 100):
            for answer in self.same([unpack(row) for row in rows[start:start + 100]]):
                counts[answer[1]] += 1
        return counts

    def test_all_rows_of_few_bytes(self):
        self.assertEqual(self.rows_are_read([[]]), [0, 1, 0, 0, 0])
        # One gap, two, three, and the reading 0 have one byte each.
        self.assertEqual(self.rows_are_read([[byte] for byte in range(256)]), [4, 248, 0, 4, 0])
        counts = self.rows_are_read([[first, second] for first in range(256) for second in range(256)])
        self.assertGreater(min(counts), 0, counts)

    def test_made_up_rows_of_bytes(self):
        maker = Maker(7)
        rows = [[maker.below(256) for k in range(maker.below(20))] for k in range(3000)]
        rows += [[maker.below(256)] + [maker.among((0, 0, 255, 1 << maker.below(8))) for k in range(maker.below(30))]
                 for k in range(3000)]
        counts = self.rows_are_read(rows)
        self.assertGreater(min(counts), 20, counts)

    def test_blocks_in_each_code(self):
        maker = Maker(8)
        rows = [maker.forced([maker.value() for n in range(1 + maker.below(16))]) for k in range(3000)]
        counts = self.rows_are_read(rows)
        self.assertGreater(min(counts[0], counts[4]), 500, counts)
        self.assertEqual(counts[1:4], [0, 0, 0])

    def test_blocks_with_one_bit_changed(self):
        for values in ([5], [7] * 16, [GAP, 3, 3, GAP, -1000], [0] * 8 + [9] * 8, [-TOP, TOP], list(range(0, 160, 10))):
            row = model.block_bytes(values)
            rows = [row[:at] + [row[at] ^ 1 << bit] + row[at + 1:] for at in range(len(row)) for bit in range(8)]
            self.rows_are_read(rows)

    def blocks_are_packed(self, blocks):
        """Many blocks, each in turn in its own list; four series hold four at once."""
        for start in range(0, len(blocks), 4):
            part = blocks[start:start + 4]
            calls = [add(s, part[s]) for s in range(len(part))]
            calls += [block(s, 0) for s in range(len(part))] + [sizes(s) for s in range(len(part))]
            calls += [codes(values) for values in part]
            rows = [model.block_bytes(values) for values in part]
            calls += [unpack(row) for row in rows] + [load(s, rows[s]) for s in range(len(part))]
            told = self.same(calls)
            self.assertEqual([answer[:2] for answer in told[4 * len(part):5 * len(part)]], [[0, 0]] * len(part))

    def test_all_short_blocks_of_few_values(self):
        values = (0, 1, -1, 2, -3, 40, -1000, GAP)
        blocks = [list(b) for count in (1, 2, 3, 4) for b in itertools.product(values, repeat=count)]
        self.blocks_are_packed(blocks)

    def test_blocks_of_great_values(self):
        values = (TOP, -TOP, 0, TOP - 1, GAP)
        blocks = [list(b) for count in (1, 2, 3, 4, 5) for b in itertools.product(values, repeat=count)]
        self.blocks_are_packed(blocks)

    def test_readings_at_the_ends_of_each_width(self):
        numbers = [sign * (2 ** k + d) for k in range(30) for d in (-1, 0, 1) for sign in (1, -1)]
        numbers = [n for n in numbers if -TOP <= n <= TOP]
        blocks = [[n] for n in numbers] + [[0, n] for n in numbers] + [[n, 0] for n in numbers]
        blocks += [[n] * 16 for n in numbers] + [[5, GAP, n, 2, n] for n in numbers]
        self.blocks_are_packed(blocks)

    def test_full_blocks_of_many_forms(self):
        blocks = []
        maker = Maker(99)
        for k in range(400):
            reach = maker.among((2, 5, 30, 1000, 10 ** 6, TOP))
            first = maker.below(2 * reach) - reach
            step = maker.below(9) - 4
            noise = maker.among((1, 2, 4, 60))
            hold = maker.among((1, 1, 3, 5))
            values = [first + step * (n // hold) + maker.below(noise) for n in range(9 + maker.below(8))]
            values = [max(-TOP, min(TOP, v)) for v in values]
            if maker.below(2):
                values[maker.below(len(values))] = GAP
            blocks.append(values)
        taken = [model.chosen([v for v in b if v != GAP]) for b in blocks]
        for code in range(4):
            self.assertGreater(taken.count(code), 10, code)
        self.blocks_are_packed(blocks)


if __name__ == "__main__":
    unittest.main()
