"""Bits read from the left to the right, and what may be wrong while they are read."""

from packedreadings.bitform import unfolded

# No number of a right block has as many zeros in front.
MOST_ZEROS = 40


class BitsLack(Exception):
    """A bit is wanted and none is left."""


class WrongNumber(Exception):
    """A number is read that no block has at its place."""


class BitReader:
    """Takes bits from a list, one behind another, and leaves the list as it is."""

    def __init__(self, bits):
        self.bits = bits
        self.at = 0

    def bits_left(self):
        return self.bits[self.at:]

    def take_bit(self):
        if self.at == len(self.bits):
            raise BitsLack()
        bit = self.bits[self.at]
        self.at = self.at + 1
        return bit

    def take_digits(self, higher, count):
        """The number of some higher digits that are known already and the next bits, that many."""
        number = higher
        for k in range(count):
            number = 2 * number + self.take_bit()
        return number

    def take_in_bits(self, count):
        return self.take_digits(0, count)

    def take_folded(self, count):
        return unfolded(self.take_in_bits(count))

    def take_self_ending(self):
        zeros = 0
        while self.take_bit() == 0:
            zeros = zeros + 1
            if zeros > MOST_ZEROS:
                raise WrongNumber()
        # The bit that ended the zeros is the highest digit itself.
        return self.take_digits(1, zeros)

    def take_folded_self_ending(self):
        return unfolded(self.take_self_ending() - 1)
