"""Made-up calls, the same at every run."""

from tests import model
from tests.asking import GAP, TOP, add, adds, codes, fill, load, unpack

WRONG = (-1, 4, 256, 401, TOP + 1, -TOP - 1, GAP - 1, GAP + 1, 10 ** 18, -10 ** 18, 31, 97, 101, 0, 2 ** 32 + 1)
PLACES_WANTED = (2, 3, 4, 7, 18, 19)


class Maker:
    def __init__(self, seed):
        self.state = seed

    def below(self, count):
        self.state = (self.state * 6364136223846793005 + 1442695040888963407) % 2 ** 64
        return (self.state >> 33) % count

    def among(self, choices):
        return choices[self.below(len(choices))]

    def value(self):
        kind = self.below(10)
        if kind < 2:
            return GAP
        if kind < 6:
            return self.below(5) - 2
        if kind < 8:
            return self.below(2001) - 1000
        if kind < 9:
            return self.below(2 * TOP + 1) - TOP
        return self.among((TOP, -TOP, 0, 1, -1))

    def wrong_or(self, number):
        return number if self.below(30) else self.among(WRONG)

    def series(self):
        return self.wrong_or(self.among((0, 0, 0, 1, 2, 3)))

    def place(self):
        return self.wrong_or(self.among((self.below(6), self.below(40), self.below(401))))

    def values(self, counts):
        count = self.among(counts)
        few = self.below(3) == 0
        values = [GAP if few and self.below(2) else self.value() for k in range(count)]
        return [self.wrong_or(value) for value in values] if count < 4 else values

    def forced(self, values):
        """A block's bytes in some code, not always the one that is taken."""
        readings = [v for v in values if v != GAP]
        text = model.block_text(values)
        if readings:
            code = self.below(4)
            own = 2 + len(model.codes(readings)[model.chosen(readings)])
            text = text[:-own] + model.binary(code, 2) + model.codes(readings)[code]
        text += "0" * (-len(text) % 8)
        return [int(text[k:k + 8], 2) for k in range(0, len(text), 8)]

    def row(self):
        """Bytes: mostly a block's, right or changed a little; sometimes any."""
        values = [self.value() for k in range(self.among((1, 2, 3, 8, 16)))]
        row = model.block_bytes(values)
        kind = self.below(10)
        if kind == 0:
            row[self.below(len(row))] ^= 1 << self.below(8)
        if kind == 1:
            row = row[:self.below(len(row))]
        if kind == 2:
            row.append(self.among((0, 0, 1, 255)))
        if kind == 3:
            row = [self.below(256) for k in range(self.below(6))]
        if kind == 4:
            row = self.forced(values)
        if kind == 5 and self.below(3) == 0:
            row[self.below(len(row))] = self.among((-1, 256, 10 ** 18, -10 ** 18))
        if kind == 6 and self.below(3) == 0:
            row = [0] * self.among((199, 200, 201, 250))
        return row

    def last_number(self, number):
        """The last number of a call that has one behind its series and place."""
        if number == 2:
            return self.value()
        if number == 4:
            return self.among((0, 1, 2, self.below(20), self.below(101)))
        return self.among((self.value(), self.below(7) - 3))

    def call_of(self, number):
        if number == 1:
            return add(self.series(), self.values((1, 2, 5, 16, 17, 40, 64, 64, 64 + self.below(2) * self.below(3))))
        if number in (5, 6):
            start = self.place()
            return [number, self.series(), start, self.wrong_or(start + self.below(30) - 3)]
        if number == 8:
            return [8, self.series(), self.wrong_or(1 + self.below(self.among((6, 96))))]
        if number == 10:
            return [10, self.series(), self.wrong_or(self.below(self.among((3, 31))))]
        if number == 11:
            return unpack(self.row())
        if number == 12:
            return load(self.series(), self.row())
        if number == 13:
            return codes(self.values((1, 1, 2, 3, 5, 9, 16, 16, 15 + self.below(3), 64 * self.below(2))))
        if number == 14:
            return [14, self.wrong_or(1 + self.below(self.among((8, 1000, 2 ** 31))))]
        if number == 16:
            return [16, self.series(), self.series(), self.place()]
        if number in (15, 17):
            return [number, self.series(), self.series()]
        return [number] + self.plain_numbers(number)

    def plain_numbers(self, number):
        """The numbers of a call that has a series, perhaps a place, perhaps one more."""
        if number == 20:
            return []
        numbers = [self.series()]
        if number in PLACES_WANTED:
            numbers.append(self.place())
        if number in (2, 4, 7):
            numbers.append(self.wrong_or(self.last_number(number)))
        return numbers

    def nearly_full(self):
        """Calls behind which the series 0 has few places and corrections left to take."""
        count = 384 + self.below(17)
        first = [GAP if self.below(7) == 0 else self.below(100) for k in range(count)]
        second = [self.below(100) for k in range(count)]
        return adds(0, first) + adds(1, second) + [fill(0, 1)]

    def call(self):
        number = self.among((0, 1, 1, 1, 1, 1, 2, 2, 2, 2, 2, 2, 2, 3, 4, 4, 4, 5, 6, 7, 8, 9, 10, 11, 11, 12, 12,
                             13, 14, 15, 16, 17, 17, 18, 19, 20))
        if number in (0, 18) and self.below(4):
            number = 1
        return self.call_of(number)
