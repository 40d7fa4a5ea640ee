"""A second archive, written apart from the package: slow, over texts of bits, straight from the document."""

GAP = 2000000000


def binary(number, count):
    text = format(number, "b").rjust(count, "0") if count else ""
    if len(text) != count:
        raise AssertionError(f"{number} has no place in {count} bits")
    return text


def width(number):
    return len(format(number, "b")) if number else 0


def fold(number):
    return number * 2 if number >= 0 else -number * 2 - 1


def gamma(number):
    text = format(number, "b")
    return "0" * (len(text) - 1) + text


def code0(readings):
    w = max(width(fold(v)) for v in readings)
    return binary(w, 5) + "".join(binary(fold(v), w) for v in readings)


def code1(readings):
    steps = [b - a for a, b in zip(readings, readings[1:])]
    w = max([width(fold(s)) for s in steps] + [0])
    return gamma(fold(readings[0]) + 1) + binary(w, 6) + "".join(binary(fold(s), w) for s in steps)


def code2(readings):
    text = gamma(fold(readings[0]) + 1)
    if len(readings) >= 2:
        text += gamma(fold(readings[1] - readings[0]) + 1)
    for k in range(2, len(readings)):
        change = readings[k] - 2 * readings[k - 1] + readings[k - 2]
        text += gamma(fold(change) + 1)
    return text


def code3(readings):
    runs = []
    for v in readings:
        if runs and runs[-1][0] == v:
            runs[-1][1] += 1
        else:
            runs.append([v, 1])
    return "".join(gamma(fold(v) + 1) + gamma(count) for v, count in runs)


def codes(readings):
    return [code0(readings), code1(readings), code2(readings), code3(readings)]


def chosen(readings):
    lengths = [len(text) for text in codes(readings)]
    return min(range(4), key=lambda code: (lengths[code], code))


def block_text(values):
    readings = [v for v in values if v != GAP]
    text = binary(len(values) - 1, 4)
    if len(readings) < len(values):
        text += "1" + "".join("0" if v == GAP else "1" for v in values)
    else:
        text += "0"
    if readings:
        code = chosen(readings)
        text += binary(code, 2) + codes(readings)[code]
    return text


def block_bytes(values):
    text = block_text(values)
    while len(text) % 8:
        text += "0"
    return [int(text[k:k + 8], 2) for k in range(0, len(text), 8)]


def pair(value):
    return [0, 0] if value == GAP else [1, value]


def is_value(number):
    return number == GAP or -10 ** 9 <= number <= 10 ** 9


def is_place(number):
    return 0 <= number <= 400


class Model:
    """Keeps only what was added and the corrections; all else is worked out anew each time."""

    def __init__(self):
        self.added = {s: [] for s in range(4)}
        self.fixes = {s: [] for s in range(4)}

    def as_of(self, s, n):
        values = list(self.added[s])
        for place, value in self.fixes[s][:n]:
            values[place] = value
        return values

    def now(self, s):
        return self.as_of(s, len(self.fixes[s]))

    def answer(self, call):
        place, s, rest = call[0], call[1], call[2:]
        if not 0 <= s <= 3:
            return [-1]
        return getattr(self, f"call{place}")(s, *rest)

    def call0(self, s):
        self.added[s] = []
        self.fixes[s] = []
        return [0]

    def call1(self, s, count, *values):
        if not 1 <= count <= 64 or not all(map(is_value, values)):
            return [-1]
        if len(self.added[s]) + count > 400:
            return [-5]
        self.added[s] += values
        return [0, len(self.added[s])]

    def call2(self, s, place, value):
        if not is_place(place) or not is_value(value):
            return [-1]
        if place >= len(self.added[s]):
            return [-4]
        if self.now(s)[place] == value:
            return [-7]
        if len(self.fixes[s]) >= 60:
            return [-5]
        self.fixes[s].append((place, value))
        return [0, len(self.fixes[s])]

    def call3(self, s, place):
        if not is_place(place):
            return [-1]
        if place >= len(self.added[s]):
            return [-4]
        return [0] + pair(self.now(s)[place])

    def call4(self, s, place, n):
        if not is_place(place) or not 0 <= n <= 100:
            return [-1]
        if place >= len(self.added[s]):
            return [-4]
        if n > len(self.fixes[s]):
            return [-6]
        return [0] + pair(self.as_of(s, n)[place])

    def in_span(self, s, i, j):
        return [(k, v) for k, v in enumerate(self.now(s)) if i <= k < j and v != GAP]

    def span_refusal(self, s, i, j):
        if not is_place(i) or not is_place(j):
            return -1
        if j < i or j > len(self.added[s]):
            return -4
        return 0

    def call5(self, s, i, j):
        refusal = self.span_refusal(s, i, j)
        if refusal:
            return [refusal]
        found = self.in_span(s, i, j)
        return [0, len(found), sum(v for k, v in found)]

    def call6(self, s, i, j):
        refusal = self.span_refusal(s, i, j)
        if refusal:
            return [refusal]
        found = self.in_span(s, i, j)
        if not found:
            return [-8]
        low = min(found, key=lambda f: (f[1], f[0]))
        high = min(found, key=lambda f: (-f[1], f[0]))
        return [0, low[1], low[0], high[1], high[0]]

    def call7(self, s, i, x):
        if not is_place(i) or not -2 * 10 ** 9 <= x <= 2 * 10 ** 9:
            return [-1]
        if i > len(self.added[s]):
            return [-4]
        found = [k for k, v in self.in_span(s, i, 400) if v >= x]
        return [0, found[0]] if found else [-8]

    def call8(self, s, n):
        if not 1 <= n <= 96:
            return [-1]
        values = self.now(s)
        row = []
        while len(values) >= n:
            piece, values = values[:n], values[n:]
            row += [0, 0] if GAP in piece else [1, sum(piece)]
        return [0, len(row)] + row

    def blocks(self, s):
        values = self.now(s)
        parts = []
        while values:
            parts.append(values[:16])
            values = values[16:]
        return parts

    def call9(self, s):
        row = [len(block_text(part)) for part in self.blocks(s)]
        return [0, sum(row), len(row)] + row

    def call10(self, s, b):
        if not 0 <= b <= 30:
            return [-1]
        parts = self.blocks(s)
        if b >= len(parts):
            return [-4]
        row = block_bytes(parts[b])
        return [0, len(row)] + row
