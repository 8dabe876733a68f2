"""A decoder that takes a received word of an encoder step by step."""

from nearestword.trellis import best_path
from nearestword.words import require_received


def _common_start(starts):
    """The longest start that all of the starts have in common.

    A start is a tuple (number, many): so many bits, the first one being the highest binary digit of the number.
    """
    number, many = starts[0]
    for other, length in starts[1:]:
        shared = min(many, length)
        differing = ((number >> (many - shared)) ^ (other >> (length - shared))).bit_length()
        number = number >> (many - shared + differing)
        many = shared - differing
    return (number, many)


class PathDecoder:
    """Keeps the lightest beginnings of a received word that is taken step by step."""

    def __init__(self, encoder):
        self.encoder = encoder
        self.restart()

    def restart(self):
        """Forgets everything that has been taken."""
        self.steps = 0
        self._items = []
        self._settled = []
        others = self.encoder.state_count - 1
        self._costs = [0] + [None] * others
        # For each state the start that all its lightest beginnings have in common, without the settled bits.
        self._starts = [(0, 0)] + [None] * others

    @property
    def costs(self):
        """For each state the cost of the lightest beginnings that end in it, None if there are none."""
        return list(self._costs)

    @property
    def settled(self):
        """The longest list of bits with which all lightest beginnings start."""
        return list(self._settled)

    def take(self, items):
        """Takes the items of one step, and returns the bits that are settled by them."""
        require_received(self.encoder.field, self.encoder.outputs, items)
        added = self.encoder.step_costs(items)
        ways = [self._lightest_into(state, added) for state in range(self.encoder.state_count)]
        self.steps += 1
        self._items.extend(items)
        self._costs = [cost for cost, _ in ways]
        return self._settle([start for _, start in ways])

    def _lightest_into(self, state, added):
        """The cost and the common start of the lightest beginnings that the next step leads to the state."""
        arrivals = []
        # These are the windows of the two steps that end in the state.
        for window in (state, state + self.encoder.state_count):
            cost = self._costs[window // 2]
            if cost is not None:
                arrivals.append((cost + added[window], self._longer(self._starts[window // 2], window % 2)))
        if not arrivals:
            return (None, None)
        least = min([cost for cost, _ in arrivals])
        return (least, _common_start([start for cost, start in arrivals if cost == least]))

    def _longer(self, start, bit):
        """The start with one bit more, unless the beginnings that have it in common differ behind it."""
        number, many = start
        if len(self._settled) + many < self.steps:
            return start
        return (2 * number + bit, many + 1)

    def _settle(self, starts):
        """Moves the bits that all starts have in common to the settled ones, and returns them."""
        number, many = _common_start([start for start in starts if start is not None])
        bits = [(number >> place) & 1 for place in reversed(range(many))]
        self._settled.extend(bits)
        self._starts = [
            None if start is None else (start[0] & ((1 << (start[1] - many)) - 1), start[1] - many)
            for start in starts
        ]
        return bits

    def answer(self):
        """What `best_path` tells of the items taken so far."""
        return best_path(self.encoder, self._items)
