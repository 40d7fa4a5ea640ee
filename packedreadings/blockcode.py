"""A block of readings and gaps as bits, by the shortest of four codes."""

from packedreadings.bitform import all_in_bits, folded, folded_self_ending, in_bits, self_ending, width
from packedreadings.gaps import GAP, readings_in


def steps_between(readings):
    return [readings[k] - readings[k - 1] for k in range(1, len(readings))]


def greatest_width(foldeds):
    return width(max(foldeds, default=0))


def plain_code(readings):
    """Code 0: each reading in as many bits as the widest takes."""
    foldeds = [folded(reading) for reading in readings]
    wide = greatest_width(foldeds)
    return in_bits(wide, 5) + all_in_bits(foldeds, wide)


def step_code(readings):
    """Code 1: the first reading, then each step in as many bits as the widest takes."""
    foldeds = [folded(step) for step in steps_between(readings)]
    wide = greatest_width(foldeds)
    return folded_self_ending(readings[0]) + in_bits(wide, 6) + all_in_bits(foldeds, wide)


def change_of_step_code(readings):
    """Code 2: the first reading, the first step, then how each step differs from the one before."""
    bits = folded_self_ending(readings[0])
    # The first step differs from 0 by itself, so it needs no case of its own.
    step_before = 0
    for step in steps_between(readings):
        bits.extend(folded_self_ending(step - step_before))
        step_before = step
    return bits


def run_end(readings, start):
    """The place behind the run of equal readings that begins at start."""
    end = start + 1
    while end < len(readings) and readings[end] == readings[start]:
        end = end + 1
    return end


def run_code(readings):
    """Code 3: for each run of equal readings the reading and how many there are."""
    bits = []
    start = 0
    while start < len(readings):
        end = run_end(readings, start)
        bits.extend(folded_self_ending(readings[start]))
        bits.extend(self_ending(end - start))
        start = end
    return bits


def in_each_code(readings):
    """The bits of the readings in the codes 0 to 3, in order."""
    return [plain_code(readings), step_code(readings), change_of_step_code(readings), run_code(readings)]


def shortest_code(coded):
    """The least number of a code that takes the fewest bits."""
    lengths = [len(bits) for bits in coded]
    return lengths.index(min(lengths))


def gap_bits(values):
    if GAP not in values:
        return [0]
    return [1] + [0 if value == GAP else 1 for value in values]


def reading_bits(readings):
    """The code's number and the readings in it; nothing where there are no readings."""
    if len(readings) == 0:
        return []
    coded = in_each_code(readings)
    code = shortest_code(coded)
    return in_bits(code, 2) + coded[code]


def block_bits(values):
    """The bits of a block of 1 to 16 readings and gaps."""
    return in_bits(len(values) - 1, 4) + gap_bits(values) + reading_bits(readings_in(values))
