"""The free distance of an encoder, its detours, and the weights of the words of its messages."""

from nearestword.errors import Catastrophic
from nearestword.words import is_word


def _steps_of(encoder):
    """For each state the pairs (weight of the output bits, next state) of the steps that feed 0 and 1."""
    weights = encoder.step_costs([0] * encoder.outputs)
    count = encoder.state_count
    return [
        [(weights[window], window % count) for window in (2 * state, 2 * state + 1)]
        for state in range(count)
    ]


def _longer(step, ways):
    """The weight and the length of the step, followed by the best way from its end."""
    weight, following = step
    return (weight + ways[following][0], 1 + ways[following][1])


def _ways_to_zero(encoder):
    """For each state the least weight of steps to the state 0, and the least number of steps of this weight."""
    steps = _steps_of(encoder)
    count = encoder.state_count
    # A lightest way comes to no state twice, so it weighs less than this.
    far = (encoder.outputs * count + 1, 0)
    ways = [(0, 0)] + [far] * (count - 1)
    for _ in range(count):
        ways = [(0, 0)] + [min([_longer(step, ways) for step in steps[state]]) for state in range(1, count)]
    return ways


def free_distance(encoder):
    """The least weight of a detour."""
    weight, _ = _longer(_steps_of(encoder)[0][1], _ways_to_zero(encoder))
    return weight


def lightest_detour(encoder):
    """The shortest of the detours with the weight of the free distance, the first one of several."""
    steps = _steps_of(encoder)
    ways = _ways_to_zero(encoder)
    detour = [1]
    _, state = steps[0][1]
    while state != 0:
        bit = 0 if _longer(steps[state][0], ways) == ways[state] else 1
        detour.append(bit)
        _, state = steps[state][bit]
    return detour


def weights_to_zero(encoder):
    """For each state the least weight of steps to the state 0."""
    return [weight for weight, _ in _ways_to_zero(encoder)]


def _is_detour(encoder, detour):
    """Tells whether the list is a detour."""
    if not is_word(encoder.field, len(detour), detour) or detour[:1] != [1]:
        return False
    steps = _steps_of(encoder)
    states = [0]
    for bit in detour:
        states.append(steps[states[-1]][bit][1])
    return states[-1] == 0 and 0 not in states[1:-1]


def _weight_of_detour(encoder, detour):
    """The number of ones among the output bits of the detour."""
    # A detour ends in the state 0, so the zeros at the end of a message add no ones.
    return encoder.word_for(detour).count(1)


def _are_below_the_ways(encoder, weights):
    """Tells whether no item but that of the state 0 is above what a step of the state adds to another item."""
    steps = _steps_of(encoder)
    for state in range(1, encoder.state_count):
        if any(weights[state] > weight + weights[following] for weight, following in steps[state]):
            return False
    return True


def check_free_distance(encoder, distance, detour, weights):
    """Tells whether the detour and the weights show that this is the free distance."""
    if not _is_detour(encoder, detour) or _weight_of_detour(encoder, detour) != distance:
        return False
    if len(weights) != encoder.state_count or weights[0] > 0:
        return False
    weight, following = _steps_of(encoder)[0][1]
    return _are_below_the_ways(encoder, weights) and distance <= weight + weights[following]


def _silent_followers(encoder):
    """For each state the states other than 0 to which a step leads whose output bits are all 0."""
    return [
        [following for weight, following in steps if weight == 0 and following != 0]
        for steps in _steps_of(encoder)
    ]


def _silent_order(encoder):
    """The states other than 0 from which silent steps go on only for a while, and the rest of them.

    Each of the former stands behind the states to which its silent steps lead; from each one of the rest
    a silent step leads to one of the rest.
    """
    followers = _silent_followers(encoder)
    order = []
    rest = list(range(1, encoder.state_count))
    ending = rest
    while ending:
        ending = [state for state in rest if all(following in order for following in followers[state])]
        order = order + ending
        rest = [state for state in rest if state not in ending]
    return (order, rest)


def silent_round(encoder):
    """A silent round, None if there is none."""
    _, rest = _silent_order(encoder)
    if not rest:
        return None
    followers = _silent_followers(encoder)
    trail = []
    state = rest[0]
    while state not in trail:
        trail.append(state)
        state = [following for following in followers[state] if following in rest][0]
    return trail[trail.index(state):]


def _ways_of_weight(step, counts, weight):
    """The number of ways to the state 0 that begin with the step and have the weight."""
    first, following = step
    return counts[following][weight - first] if first <= weight else 0


def spectrum(encoder, most):
    """The number of detours of each weight up to `most`."""
    order, rest = _silent_order(encoder)
    if rest:
        raise Catastrophic(silent_round(encoder))
    steps = _steps_of(encoder)
    # For each state, by their weight, the numbers of ways that come to the state 0 at their end only.
    counts = [[] for _ in steps]
    found = []
    for weight in range(most + 1):
        counts[0].append(1 if weight == 0 else 0)
        for state in order:
            counts[state].append(sum([_ways_of_weight(step, counts, weight) for step in steps[state]]))
        found.append(_ways_of_weight(steps[0][1], counts, weight))
    return found


def _heavier(counts, by, most):
    """The counts by weight after `by` is added to each weight, with room for adding up to `most`."""
    return [0] * by + counts + [0] * (most - by)


def weight_counts(encoder, length):
    """The number of messages of the length whose word has each weight."""
    steps = _steps_of(encoder)
    counts = [[1]] + [[0] for _ in steps[1:]]
    for _ in range(length + encoder.memory):
        longer = [[0] * (len(counts[0]) + encoder.outputs) for _ in steps]
        for before, branches in zip(counts, steps):
            for weight, following in branches:
                heavier = _heavier(before, weight, encoder.outputs)
                longer[following] = [many + more for many, more in zip(longer[following], heavier)]
        counts = longer
    # The ways that end in the state 0 are those whose last bits are as many zeros as the memory.
    return counts[0]
