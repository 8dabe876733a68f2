"""Convolutional encoders."""

from nearestword.errors import InvalidEncoder, InvalidWord, NotInCode
from nearestword.fields import Field, int_power
from nearestword.limits import require_length
from nearestword.linear import LinearCode
from nearestword.polynomials import poly_divide, poly_trim
from nearestword.words import errors_beside, require_word, zero_word

MOST_TAPS = 4
LONGEST_TAP = 6


def _require_taps(taps):
    """Raises InvalidEncoder if there is no encoder with these taps."""
    if len(taps) < 1 or len(taps) > MOST_TAPS:
        raise InvalidEncoder(f"an encoder has 1 to {MOST_TAPS} taps")
    size = len(taps[0])
    if size < 1 or size > LONGEST_TAP or any(len(tap) != size for tap in taps):
        raise InvalidEncoder(f"all taps have the same number of items, from 1 to {LONGEST_TAP}")
    items = [item for tap in taps for item in tap]
    if not all(item in (0, 1) for item in items):
        raise InvalidEncoder("an item of a tap is not 0 or 1")
    if 1 not in items:
        raise InvalidEncoder("no item of a tap is 1")


def _output_bit(tap, window):
    """The output bit of a tap in the step with the window."""
    return sum([item * ((window >> at) & 1) for at, item in enumerate(tap)]) % 2


class Encoder:
    """A convolutional encoder.

    A step is known by its window, the integer with the bit that is fed as its lowest binary digit and the state
    before it as the others. The state after it is the remainder of the window, divided by the number of states.
    """

    def __init__(self, taps):
        _require_taps(taps)
        self.taps = tuple([tuple(tap) for tap in taps])
        self.memory = len(taps[0]) - 1
        self.outputs = len(taps)
        self.state_count = int_power(2, self.memory)
        self.field = Field(2)
        # The output bits of the step with each window.
        self._steps = [
            [_output_bit(tap, window) for tap in self.taps]
            for window in range(2 * self.state_count)
        ]

    def advance(self, state, bit):
        """The next state and the output bits of the step that feeds the bit in the state."""
        require_word(self.field, 1, [bit])
        if state < 0 or state >= self.state_count:
            raise InvalidWord(f"a state is from 0 to {self.state_count - 1}")
        window = bit + 2 * state
        return (window % self.state_count, list(self._steps[window]))

    def step_costs(self, items):
        """For each window the number of items, not erased, that differ from its output bits."""
        return [errors_beside(bits, items) for bits in self._steps]

    def _windows_for(self, message):
        """The windows of the steps for the message, the zeros at the end included."""
        require_word(self.field, len(message), message)
        windows = []
        state = 0
        for bit in message + [0] * self.memory:
            windows.append(bit + 2 * state)
            state = windows[-1] % self.state_count
        return windows

    def word_for(self, message):
        """The word of the message."""
        return [bit for window in self._windows_for(message) for bit in self._steps[window]]

    def states_for(self, message):
        """The states before the first step and after each step for the message."""
        return [0] + [window % self.state_count for window in self._windows_for(message)]

    def message_length(self, received):
        """The number of bits of the messages whose words are as long as the list."""
        length = len(received) // self.outputs - self.memory
        if length < 0 or len(received) % self.outputs != 0:
            raise InvalidWord("no message has a word of this length")
        return length

    def _message_if_any(self, word):
        """The message with this word, None if no message has it."""
        length = self.message_length(word)
        require_word(self.field, len(word), word)
        # The output bits of one tap are the coefficients of the product of the message and the tap.
        place = [at for at, tap in enumerate(self.taps) if 1 in tap][0]
        divisor = poly_trim(list(self.taps[place]))
        quotient, _ = poly_divide(self.field, poly_trim(word[place::self.outputs]), divisor)
        # A quotient that is too long has a word that is too long.
        message = quotient + [0] * (length - len(quotient))
        return message if self.word_for(message) == word else None

    def message_of(self, word):
        """The message with this word."""
        message = self._message_if_any(word)
        if message is None:
            raise NotInCode("no message has this word")
        return message

    def contains(self, word):
        """Tells whether the word is the word of a message."""
        return self._message_if_any(word) is not None

    def linear(self, length):
        """The linear code of the words of all messages of this length."""
        items = self.outputs * (length + self.memory)
        require_length(items)
        rows = []
        for at in range(length):
            message = zero_word(length)
            message[at] = 1
            rows.append(self.word_for(message))
        return LinearCode(self.field, items, rows)
