"""A second archive, written apart from the package: slow, over texts of bits, straight from the document."""

GAP = 2000000000


def binary(number, count):
    text = format(number, "b").rjust(count, "0") if count else ""
    if len(text) != count:
        raise AssertionError(f"{number} has no place in {count} bits")
    return text


def width(number):
    return len(format(number, "b")) if number else 0


def fold(number):
    return number * 2 if number >= 0 else -number * 2 - 1


def gamma(number):
    text = format(number, "b")
    return "0" * (len(text) - 1) + text


def code0(readings):
    w = max(width(fold(v)) for v in readings)
    return binary(w, 5) + "".join(binary(fold(v), w) for v in readings)


def code1(readings):
    steps = [b - a for a, b in zip(readings, readings[1:])]
    w = max([width(fold(s)) for s in steps] + [0])
    return gamma(fold(readings[0]) + 1) + binary(w, 6) + "".join(binary(fold(s), w) for s in steps)


def code2(readings):
    text = gamma(fold(readings[0]) + 1)
    if len(readings) >= 2:
        text += gamma(fold(readings[1] - readings[0]) + 1)
    for k in range(2, len(readings)):
        change = readings[k] - 2 * readings[k - 1] + readings[k - 2]
        text += gamma(fold(change) + 1)
    return text


def code3(readings):
    runs = []
    for v in readings:
        if runs and runs[-1][0] == v:
            runs[-1][1] += 1
        else:
            runs.append([v, 1])
    return "".join(gamma(fold(v) + 1) + gamma(count) for v, count in runs)


def codes(readings):
    return [code0(readings), code1(readings), code2(readings), code3(readings)]


def chosen(readings):
    lengths = [len(text) for text in codes(readings)]
    return min(range(4), key=lambda code: (lengths[code], code))


def block_text(values):
    readings = [v for v in values if v != GAP]
    text = binary(len(values) - 1, 4)
    if len(readings) < len(values):
        text += "1" + "".join("0" if v == GAP else "1" for v in values)
    else:
        text += "0"
    if readings:
        code = chosen(readings)
        text += binary(code, 2) + codes(readings)[code]
    return text


def block_bytes(values):
    text = block_text(values)
    while len(text) % 8:
        text += "0"
    return [int(text[k:k + 8], 2) for k in range(0, len(text), 8)]


class Wrong(Exception):
    def __init__(self, number):
        super().__init__(number)
        self.number = number


def unfold(number):
    return (number >> 1) ^ -(number & 1)


class Text:
    """Bits as a text that is cut off from the left."""

    def __init__(self, row):
        self.rest = "".join(binary(byte, 8) for byte in row)

    def number(self, count):
        if count > len(self.rest):
            raise Wrong(1)
        cut, self.rest = self.rest[:count], self.rest[count:]
        return int("0" + cut, 2)

    def gamma(self):
        zeros = len(self.rest) - len(self.rest.lstrip("0"))
        if zeros > 40:
            raise Wrong(2)
        return self.number(2 * zeros + 1)

    def first(self):
        return unfold(self.gamma() - 1)


def read_code(text, code, m):
    if code == 0:
        w = text.number(5)
        return [unfold(text.number(w)) for k in range(m)]
    if code == 3:
        found = []
        while len(found) < m:
            v, count = text.first(), text.gamma()
            if len(found) + count > m:
                raise Wrong(2)
            found += [v] * count
        return found
    found = [text.first()]
    if code == 1:
        w = text.number(6)
        while len(found) < m:
            found.append(found[-1] + unfold(text.number(w)))
    while len(found) < m:
        change = text.first()
        found.append(found[0] + change if len(found) == 1 else 2 * found[-1] - found[-2] + change)
    return found


def read(row):
    """The values of the block that a row of bytes is; or Wrong."""
    text = Text(row)
    count = text.number(4) + 1
    marks = binary(text.number(count), count) if text.number(1) else "1" * count
    m = marks.count("1")
    readings = read_code(text, text.number(2), m) if m else []
    if [v for v in readings if abs(v) > 10 ** 9]:
        raise Wrong(2)
    if len(text.rest) >= 8 or "1" in text.rest:
        raise Wrong(3)
    values = [GAP if mark == "0" else readings.pop(0) for mark in marks]
    if block_bytes(values) != list(row):
        raise Wrong(4)
    return values


def pair(value):
    return [0, 0] if value == GAP else [1, value]


def is_value(number):
    return number == GAP or -10 ** 9 <= number <= 10 ** 9


def is_place(number):
    return 0 <= number <= 400


def is_row_of_bytes(count, row):
    return count <= 200 and all(0 <= byte <= 255 for byte in row)


# The calls that do not begin with a series.
WITHOUT_SERIES = (11, 13, 14, 20)
# The calls whose second number is a series too.
WITH_ANOTHER = (15, 16, 17)


class Model:
    """Keeps only what was added and the corrections; all else is worked out anew each time."""

    def __init__(self):
        self.added = {s: [] for s in range(4)}
        self.fixes = {s: [] for s in range(4)}

    def as_of(self, s, n):
        values = list(self.added[s])
        for place, value in self.fixes[s][:n]:
            values[place] = value
        return values

    def now(self, s):
        return self.as_of(s, len(self.fixes[s]))

    def answer(self, call):
        place, rest = call[0], call[1:]
        series = 0 if place in WITHOUT_SERIES else 2 if place in WITH_ANOTHER else 1
        if [s for s in rest[:series] if s not in (0, 1, 2, 3)]:
            return [-1]
        return getattr(self, f"call{place}")(*rest)

    def call0(self, s):
        self.added[s] = []
        self.fixes[s] = []
        return [0]

    def call1(self, s, count, *values):
        if not 1 <= count <= 64 or not all(map(is_value, values)):
            return [-1]
        if len(self.added[s]) + count > 400:
            return [-5]
        self.added[s] += values
        return [0, len(self.added[s])]

    def call2(self, s, place, value):
        if not is_place(place) or not is_value(value):
            return [-1]
        if place >= len(self.added[s]):
            return [-4]
        if self.now(s)[place] == value:
            return [-7]
        if len(self.fixes[s]) >= 60:
            return [-5]
        self.fixes[s].append((place, value))
        return [0, len(self.fixes[s])]

    def call3(self, s, place):
        if not is_place(place):
            return [-1]
        if place >= len(self.added[s]):
            return [-4]
        return [0] + pair(self.now(s)[place])

    def call4(self, s, place, n):
        if not is_place(place) or not 0 <= n <= 100:
            return [-1]
        if place >= len(self.added[s]):
            return [-4]
        if n > len(self.fixes[s]):
            return [-6]
        return [0] + pair(self.as_of(s, n)[place])

    def in_span(self, s, i, j):
        return [(k, v) for k, v in enumerate(self.now(s)) if i <= k < j and v != GAP]

    def span_refusal(self, s, i, j):
        if not is_place(i) or not is_place(j):
            return -1
        if j < i or j > len(self.added[s]):
            return -4
        return 0

    def call5(self, s, i, j):
        refusal = self.span_refusal(s, i, j)
        if refusal:
            return [refusal]
        found = self.in_span(s, i, j)
        return [0, len(found), sum(v for k, v in found)]

    def call6(self, s, i, j):
        refusal = self.span_refusal(s, i, j)
        if refusal:
            return [refusal]
        found = self.in_span(s, i, j)
        if not found:
            return [-8]
        low = min(found, key=lambda f: (f[1], f[0]))
        high = min(found, key=lambda f: (-f[1], f[0]))
        return [0, low[1], low[0], high[1], high[0]]

    def call7(self, s, i, x):
        if not is_place(i) or not -2 * 10 ** 9 <= x <= 2 * 10 ** 9:
            return [-1]
        if i > len(self.added[s]):
            return [-4]
        found = [k for k, v in self.in_span(s, i, 400) if v >= x]
        return [0, found[0]] if found else [-8]

    def call8(self, s, n):
        if not 1 <= n <= 96:
            return [-1]
        values = self.now(s)
        row = []
        while len(values) >= n:
            piece, values = values[:n], values[n:]
            row += [0, 0] if GAP in piece else [1, sum(piece)]
        return [0, len(row)] + row

    def blocks(self, s):
        values = self.now(s)
        parts = []
        while values:
            parts.append(values[:16])
            values = values[16:]
        return parts

    def call9(self, s):
        row = [len(block_text(part)) for part in self.blocks(s)]
        return [0, sum(row), len(row)] + row

    def call10(self, s, b):
        if not 0 <= b <= 30:
            return [-1]
        parts = self.blocks(s)
        if b >= len(parts):
            return [-4]
        row = block_bytes(parts[b])
        return [0, len(row)] + row

    def call11(self, count, *row):
        if not is_row_of_bytes(count, row):
            return [-1]
        try:
            values = read(row)
        except Wrong as wrong:
            return [0, wrong.number]
        return [0, 0, 2 * len(values)] + [number for v in values for number in pair(v)]

    def call12(self, s, count, *row):
        if not is_row_of_bytes(count, row):
            return [-1]
        try:
            values = read(row)
        except Wrong:
            return [-3]
        if len(self.added[s]) + len(values) > 400:
            return [-5]
        self.added[s] += values
        return [0, len(self.added[s])]

    def call13(self, count, *values):
        if not 1 <= count <= 16 or not all(map(is_value, values)):
            return [-1]
        readings = [v for v in values if v != GAP]
        if not readings:
            return [-8]
        return [0, chosen(readings)] + [len(text) for text in codes(readings)]

    def call14(self, n):
        if not 1 <= n <= 2 ** 32:
            return [-1]
        text = gamma(n)
        return [0, len(text)] + [int(bit) for bit in text]

    def call15(self, s, t):
        if s == t:
            return [-6]
        self.added[t] = list(self.added[s])
        self.fixes[t] = list(self.fixes[s])
        return [0]

    def call16(self, s, t, i):
        if not is_place(i):
            return [-1]
        # None stands where there is no place, so that it differs from a gap too.
        mine, theirs = [self.now(x) + [None] * (400 - len(self.added[x])) for x in (s, t)]
        return [0] + ([k for k in range(i, 400) if mine[k] != theirs[k]] + [-1])[:1]

    def call17(self, s, t):
        found = [(k, b) for k, (a, b) in enumerate(zip(self.now(s), self.now(t))) if a == GAP != b]
        if len(self.fixes[s]) + len(found) > 60:
            return [-5]
        self.fixes[s] += found
        return [0, len(found)]

    def call18(self, s, n):
        if not is_place(n):
            return [-1]
        if n > len(self.added[s]):
            return [-4]
        while len(self.added[s]) > n:
            self.added[s].pop()
        self.fixes[s] = [(place, value) for place, value in self.fixes[s] if place < n]
        return [0]

    def call19(self, s, place):
        if not is_place(place):
            return [-1]
        if place >= len(self.added[s]):
            return [-4]
        row = pair(self.added[s][place])
        for at, value in self.fixes[s]:
            row += pair(value) if at == place else []
        return [0, len(row)] + row

    def call20(self):
        return [0] + [len(kept[s]) for s in range(4) for kept in (self.added, self.fixes)]
