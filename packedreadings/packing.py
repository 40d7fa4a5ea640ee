"""The calls that pack a series, as it is now, in blocks: sizes and block."""

from packedreadings.bitform import as_bytes
from packedreadings.blockcode import block_bits
from packedreadings.limits import BLOCK_LENGTH, NO_SUCH_PLACE
from packedreadings.telling import told_row


def blocks_of(series):
    """What stands now, parted from its beginning; the last block may be shorter."""
    values = series.standing
    return [values[start:start + BLOCK_LENGTH] for start in range(0, len(values), BLOCK_LENGTH)]


def sizes_of_blocks(series):
    sizes = [len(block_bits(values)) for values in blocks_of(series)]
    return [0, sum(sizes)] + told_row(sizes)


def bytes_of_block(series, number):
    blocks = blocks_of(series)
    if number >= len(blocks):
        return [NO_SUCH_PLACE]
    return [0] + told_row(as_bytes(block_bits(blocks[number])))
