"""Bytes read as a block of readings and gaps."""

from packedreadings.bitform import all_in_bits, as_bytes
from packedreadings.bitreading import BitReader, BitsLack, WrongNumber
from packedreadings.blockcode import block_bits
from packedreadings.gaps import GAP, is_reading

NOTHING_WRONG = 0
BITS_LACK = 1
WRONG_NUMBER = 2
BITS_LEFT_OVER = 3
OTHER_BYTES = 4


def sums_from(first, steps):
    """The first number, then what it becomes with each step."""
    numbers = [first]
    for step in steps:
        numbers.append(numbers[len(numbers) - 1] + step)
    return numbers


def read_plain_code(reader, count):
    wide = reader.take_in_bits(5)
    return [reader.take_folded(wide) for k in range(count)]


def read_step_code(reader, count):
    first = reader.take_folded_self_ending()
    wide = reader.take_in_bits(6)
    return sums_from(first, [reader.take_folded(wide) for k in range(count - 1)])


def read_change_of_step_code(reader, count):
    first = reader.take_folded_self_ending()
    changes = [reader.take_folded_self_ending() for k in range(count - 1)]
    # The first step is itself the change from a step of 0, which is no step of the block.
    steps = sums_from(0, changes)[1:]
    return sums_from(first, steps)


def read_run_code(reader, count):
    readings = []
    while len(readings) < count:
        reading = reader.take_folded_self_ending()
        length = reader.take_self_ending()
        if length > count - len(readings):
            raise WrongNumber()
        readings.extend([reading] * length)
    return readings


def read_in_code(code, reader, count):
    if code == 0:
        return read_plain_code(reader, count)
    if code == 1:
        return read_step_code(reader, count)
    if code == 2:
        return read_change_of_step_code(reader, count)
    return read_run_code(reader, count)


def read_readings(reader, count):
    """The code's number and as many readings in it; no bits where there are no readings."""
    if count == 0:
        return []
    code = reader.take_in_bits(2)
    readings = read_in_code(code, reader, count)
    # Only now, as bits that lack are told ahead of readings out of their range.
    if not all([is_reading(reading) for reading in readings]):
        raise WrongNumber()
    return readings


def read_marks(reader):
    """For each of the block's places 1 for a reading, 0 for a gap."""
    count = reader.take_in_bits(4) + 1
    if reader.take_bit() == 0:
        return [1] * count
    return [reader.take_bit() for k in range(count)]


def with_gaps(marks, readings):
    values = []
    used = 0
    for mark in marks:
        if mark == 1:
            values.append(readings[used])
            used = used + 1
        else:
            values.append(GAP)
    return values


def read_values(reader):
    marks = read_marks(reader)
    return with_gaps(marks, read_readings(reader, sum(marks)))


def is_filling(bits):
    """Whether these bits may fill up a block's last byte."""
    return len(bits) < 8 and 1 not in bits


def read_block(row):
    """What is wrong with the bytes, and the values of the block where nothing is."""
    reader = BitReader(all_in_bits(row, 8))
    try:
        values = read_values(reader)
    except BitsLack:
        return (BITS_LACK, [])
    except WrongNumber:
        return (WRONG_NUMBER, [])
    if not is_filling(reader.bits_left()):
        return (BITS_LEFT_OVER, [])
    if as_bytes(block_bits(values)) != row:
        return (OTHER_BYTES, [])
    return (NOTHING_WRONG, values)
