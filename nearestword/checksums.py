"""Checksums of lists of bits."""

from nearestword.errors import InvalidCode, InvalidWord
from nearestword.fields import standard_field
from nearestword.limits import GREATEST_LENGTH, require_between
from nearestword.linear import LinearCode

MOST_BITS_OF_GENERATOR = 17
WIDEST_BLOCK = 8


def _are_bits(items):
    """Tells whether all items are 0 or 1."""
    return all(item in (0, 1) for item in items)


def _require_bits(items):
    """Raises InvalidWord if an item is not 0 or 1."""
    if not _are_bits(items):
        raise InvalidWord("an item is not 0 or 1")


def _require_generator(generator):
    """Raises InvalidCode if the list is not a generator."""
    if len(generator) < 2 or len(generator) > MOST_BITS_OF_GENERATOR or not _are_bits(generator):
        raise InvalidCode(f"a generator has 2 to {MOST_BITS_OF_GENERATOR} bits")
    if generator[0] != 1 or generator[-1] != 1:
        raise InvalidCode("the first and the last bit of a generator are 1")


def _number_of(bits):
    """The number that is written with the bits, the highest one first."""
    number = 0
    for bit in bits:
        number = 2 * number + bit
    return number


def _bits_of(number, many):
    """The lowest bits of the number, the highest one first."""
    return [(number >> place) & 1 for place in reversed(range(many))]


class Checksum:
    """The checksum with a generator."""

    def __init__(self, generator):
        _require_generator(generator)
        self.degree = len(generator) - 1
        self._generator = list(generator)
        # Inside the object, polynomials are numbers: the binary digit at a place is the coefficient there.
        self._divisor = _number_of(generator[::-1])

    @property
    def generator(self):
        """The generator, the constant first."""
        return list(self._generator)

    def _reduced(self, number):
        """The remainder of a number of at most r + 1 binary digits."""
        return number ^ self._divisor if (number >> self.degree) == 1 else number

    def _after(self, state, bit):
        """The state, as a number, after the bit."""
        return self._reduced((state << 1) ^ (bit << self.degree))

    def period(self):
        """The least exponent e from 1 for which the generator divides x ** e - 1."""
        power = self._reduced(2)
        exponent = 1
        while power != 1:
            power = self._reduced(power << 1)
            exponent += 1
        return exponent

    def finds_odd(self):
        """Tells whether every good list has an even number of 1s because the generator has."""
        return sum(self._generator) % 2 == 0

    def remainder(self, bits):
        """The remainder of the bits."""
        _require_bits(bits)
        state = 0
        for bit in bits:
            state = self._after(state, bit)
        return _bits_of(state, self.degree)

    def sealed(self, bits):
        """The bits followed by their remainder."""
        return bits + self.remainder(bits)

    def is_good(self, bits):
        """Tells whether the generator divides the polynomial of the bits."""
        # The constant of the generator is 1, so a factor that is a power of x makes no difference.
        return not any(self.remainder(bits))

    def advance(self, state, bit):
        """The state after the bit."""
        _require_bits(state + [bit])
        if len(state) != self.degree:
            raise InvalidWord(f"a state has {self.degree} bits")
        return _bits_of(self._after(_number_of(state), bit), self.degree)

    def _block_table(self, width):
        """For each block the remainder of its polynomial multiplied by x ** r."""
        table = []
        for block in range(1 << width):
            state = 0
            for bit in _bits_of(block, width):
                state = self._after(state, bit)
            table.append(state)
        return table

    def remainder_by_blocks(self, bits, width):
        """The remainder of the bits, computed with a table for blocks of `width` bits."""
        _require_bits(bits)
        require_between("width", width, 1, WIDEST_BLOCK)
        table = self._block_table(width)
        # Zeros in front do not change the polynomial; they fill the first block.
        filled = [0] * (-len(bits) % width) + bits
        below = (1 << self.degree) - 1
        state = 0
        for start in range(0, len(filled), width):
            moved = state << width
            block = (moved >> self.degree) ^ _number_of(filled[start:start + width])
            state = table[block] ^ (moved & below)
        return _bits_of(state, self.degree)

    def linear(self, length):
        """The code of the good lists of this length."""
        require_between("length", length, self.degree + 1, GREATEST_LENGTH)
        multiple = self._generator[::-1]
        places = length - self.degree
        rows = [[0] * at + multiple + [0] * (places - 1 - at) for at in range(places)]
        return LinearCode(standard_field(2), length, rows)
