"""Numbers as bits. Bits are a list of 0 and 1, the first bit first."""


def folded(number):
    """Negative and other numbers in turn, so that numbers near 0 stay small."""
    if number >= 0:
        return 2 * number
    return -2 * number - 1


def unfolded(number):
    """The number that has this folded number."""
    if number % 2 == 0:
        return number // 2
    return -(number + 1) // 2


def width(number):
    return number.bit_length()


def in_bits(number, count):
    return [(number >> (count - 1 - k)) & 1 for k in range(count)]


def all_in_bits(numbers, count):
    bits = []
    for number in numbers:
        bits.extend(in_bits(number, count))
    return bits


def self_ending(number):
    """The form of a number from 1 on that tells by its zeros where it ends."""
    digits = width(number)
    return [0] * (digits - 1) + in_bits(number, digits)


def folded_self_ending(number):
    # One more, as a self-ending number begins with 1 and a folded one with 0.
    return self_ending(folded(number) + 1)


def byte_at(bits, start):
    """The byte of the eight bits from start on; bits beyond the end are 0."""
    byte = 0
    for k in range(start, start + 8):
        byte = 2 * byte
        if k < len(bits):
            byte = byte + bits[k]
    return byte


def as_bytes(bits):
    return [byte_at(bits, start) for start in range(0, len(bits), 8)]
