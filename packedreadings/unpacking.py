"""The calls that read bytes as a block: unpack and load."""

from packedreadings.blockreading import NOTHING_WRONG, read_block
from packedreadings.changes import add_row
from packedreadings.limits import WRONG_BYTES
from packedreadings.telling import told_row, told_values


def unpack_row(row):
    found = read_block(row)
    if found[0] != NOTHING_WRONG:
        return [0, found[0]]
    return [0, NOTHING_WRONG] + told_row(told_values(found[1]))


def load_row(series, row):
    found = read_block(row)
    if found[0] != NOTHING_WRONG:
        return [WRONG_BYTES]
    return add_row(series, found[1])
