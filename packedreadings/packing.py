"""The calls that pack what stands or is given: sizes, block, codes and gamma."""

from packedreadings.bitform import as_bytes, self_ending
from packedreadings.blockcode import block_bits, in_each_code, shortest_code
from packedreadings.gaps import readings_in
from packedreadings.limits import BLOCK_LENGTH, NO_READING, NO_SUCH_PLACE
from packedreadings.telling import told_row


def blocks_of(series):
    """What stands now, parted from its beginning; the last block may be shorter."""
    values = series.standing
    return [values[start:start + BLOCK_LENGTH] for start in range(0, len(values), BLOCK_LENGTH)]


def sizes_of_blocks(series):
    sizes = [len(block_bits(values)) for values in blocks_of(series)]
    return [0, sum(sizes)] + told_row(sizes)


def bytes_of_block(series, number):
    blocks = blocks_of(series)
    if number >= len(blocks):
        return [NO_SUCH_PLACE]
    return [0] + told_row(as_bytes(block_bits(blocks[number])))


def codes_of_row(row):
    readings = readings_in(row)
    if len(readings) == 0:
        return [NO_READING]
    coded = in_each_code(readings)
    return [0, shortest_code(coded)] + [len(bits) for bits in coded]


def bits_of_self_ending(number):
    return [0] + told_row(self_ending(number))
