"""The messages of an encoder whose words are nearest to a received word."""

from nearestword.words import errors_beside, is_word, require_received


class Trellis:
    """The steps of all messages whose words are as long as a received word."""

    def __init__(self, encoder, received):
        # This is the number of bits of each message.
        self.length = encoder.message_length(received)
        require_received(encoder.field, len(received), received)
        self._state_count = encoder.state_count
        starts = range(0, len(received), encoder.outputs)
        self._step_costs = [encoder.step_costs(received[at:at + encoder.outputs]) for at in starts]

    def branches(self, step, state):
        """For each bit that may be fed (bit, cost, next state): the cost is the number of differing positions."""
        found = []
        bits = (0, 1) if step < self.length else (0,)
        for bit in bits:
            window = bit + 2 * state
            found.append((bit, self._step_costs[step][window], window % self._state_count))
        return found

    def costs_to_go(self):
        """The table of the costs to go."""
        states = range(self._state_count)
        table = [[0] * self._state_count]
        for step in reversed(range(len(self._step_costs))):
            below = table[-1]
            table.append([
                min([cost + below[following] for _, cost, following in self.branches(step, state)])
                for state in states
            ])
        return table[::-1]

    def lightest_branches(self, table, step, state):
        """The pairs (bit, next state) with which the lightest ways from the state on can begin."""
        below = table[step + 1]
        return [
            (bit, following)
            for bit, cost, following in self.branches(step, state)
            if cost + below[following] == table[step][state]
        ]


def _first_message(trellis, table):
    """The first nearest message in lexicographic order."""
    message = []
    state = 0
    for step in range(trellis.length):
        bit, state = trellis.lightest_branches(table, step, state)[0]
        message.append(bit)
    return message


def best_path(encoder, received):
    """The least distance, the first nearest message, and the number of nearest messages."""
    trellis = Trellis(encoder, received)
    table = trellis.costs_to_go()
    # For each state the number of lightest ways that go on from it, from the last step back to the first.
    counts = [1] * encoder.state_count
    for step in reversed(range(len(table) - 1)):
        counts = [
            sum([counts[following] for _, following in trellis.lightest_branches(table, step, state)])
            for state in range(encoder.state_count)
        ]
    return (table[0][0], _first_message(trellis, table), counts[0])


def nearest_messages(encoder, received):
    """Yields all nearest messages in lexicographic order."""
    trellis = Trellis(encoder, received)
    table = trellis.costs_to_go()
    message = []
    states = [0]
    # The steps of the message in which a 1 could take the place of the 0.
    forks = []
    while True:
        while len(message) < trellis.length:
            branches = trellis.lightest_branches(table, len(message), states[-1])
            if len(branches) > 1:
                forks.append(len(message))
            bit, following = branches[0]
            message.append(bit)
            states.append(following)
        yield list(message)
        if not forks:
            return
        step = forks.pop()
        _, (bit, following) = trellis.lightest_branches(table, step, states[step])
        message = message[:step] + [bit]
        states = states[:step + 1] + [following]


def costs_to_go(encoder, received):
    """The table of the costs to go: a row for each step, with an item for each state."""
    return Trellis(encoder, received).costs_to_go()


def _is_table(encoder, received, costs):
    """Tells whether the rows and the items of a table of the costs to go are as many as they must be."""
    if len(costs) != len(received) // encoder.outputs + 1:
        return False
    return all(len(row) == encoder.state_count for row in costs)


def check_path(encoder, received, distance, message, costs):
    """Tells whether the message is shown to be nearest, at the distance, by the table."""
    trellis = Trellis(encoder, received)
    if not is_word(encoder.field, trellis.length, message):
        return False
    if errors_beside(encoder.word_for(message), received) != distance:
        return False
    if not _is_table(encoder, received, costs) or max(costs[-1]) > 0:
        return False
    for step, row in enumerate(costs[:-1]):
        for state, item in enumerate(row):
            branches = trellis.branches(step, state)
            if any(item > cost + costs[step + 1][following] for _, cost, following in branches):
                return False
    return costs[0][0] >= distance
