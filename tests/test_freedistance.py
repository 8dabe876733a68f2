"""Points 100 to 104: the free distance, detours, silent rounds, and the weights of words."""

import functools
import random
import unittest

from nearestword.convolution import Encoder
from nearestword.enumerators import enumerator
from nearestword.errors import Catastrophic
from nearestword.freedistance import (
    check_free_distance, free_distance, lightest_detour, silent_round, spectrum, weight_counts, weights_to_zero,
)
from tests.support import ENCODERS, LONG_ENCODERS, all_bits, fed, slow_word

# A detour with a 0 in the place of the second 1 is as light as the lightest one, but longer.
SHORTER_WITH_A_ONE = (
    [[0, 0, 1, 0, 1], [1, 1, 1, 1, 1]], [[0, 1, 1, 1, 1], [1, 0, 1, 1, 1]], [[0, 0, 0, 1, 0, 1], [1, 1, 1, 1, 1, 1]],
)
CATASTROPHIC = (
    [[1, 1]], [[1, 1], [0, 0]], [[1, 1], [1, 1]], [[1, 1, 0], [0, 1, 1]], [[1, 0, 1], [1, 1, 0]],
    [[1, 1, 1], [1, 1, 1]],
    [[1, 0, 0, 1], [0, 0, 0, 0]], [[1, 1, 0, 0, 1, 1], [1, 0, 0, 0, 0, 1]], [[0, 1, 0, 1], [0, 1, 1, 0]],
    [[1, 1, 1, 1, 1, 1]] * 4,
)


def some_encoders():
    """All small encoders with one or two taps, and some others."""
    for many in (1, 2, 3):
        for bits in all_bits(many):
            if any(bits):
                yield [bits]
                for other in all_bits(many):
                    yield [bits, other]
    yield from ENCODERS
    source = random.Random(100)
    for _ in range(40):
        taps = [[source.randrange(2) for _ in range(4)] for _ in range(source.randrange(1, 5))]
        if any(any(tap) for tap in taps):
            yield taps


@functools.lru_cache(maxsize=None)
def steps_of(taps):
    """For each state and bit the next state and the number of ones in the output of the step."""
    memory = len(taps[0]) - 1
    found = {}
    for state in range(2 ** memory):
        for bit in (0, 1):
            before = [state >> place & 1 for place in reversed(range(memory))]
            told, following = fed(taps, before + [bit])
            found[state, bit] = (following, sum(told[len(taps) * memory:]))
    return found


def step(taps, state, bit):
    return steps_of(tuple(map(tuple, taps)))[state, bit]


def is_detour(taps, bits):
    if bits[:1] != [1] or any(bit not in (0, 1) for bit in bits):
        return False
    states = [0]
    for bit in bits:
        states.append(step(taps, states[-1], bit)[0])
    return [at for at, state in enumerate(states) if state == 0] == [0, len(bits)]


def slow_weights(taps):
    """For each state the least weight of steps to the state 0, found by making steps as long as they help."""
    weights = {0: 0}
    changed = True
    while changed:
        changed = False
        for state in range(2 ** (len(taps[0]) - 1)):
            for bit in (0, 1):
                following, ones = step(taps, state, bit)
                if following in weights and weights[following] + ones < weights.get(state, 10 ** 9):
                    weights[state] = weights[following] + ones
                    changed = True
    return [weights[state] for state in sorted(weights)]


def slow_detours(taps, longest):
    """Pairs of a detour with at most so many bits and its weight, in ascending order of length, then of the bits."""
    found = []
    state, ones = step(taps, 0, 1)
    here = [([1], state, ones)]
    for _ in range(longest):
        found += [(bits, weight) for bits, state, weight in here if state == 0]
        longer = []
        for bits, state, weight in here:
            if state != 0:
                for bit in (0, 1):
                    following, ones = step(taps, state, bit)
                    longer.append((bits + [bit], following, weight + ones))
        here = longer
    return found


def has_silent_round(taps):
    """Tells whether some state other than 0 leads to itself by silent steps, found by joining ways."""
    states = range(1, 2 ** (len(taps[0]) - 1))
    ways = {(state, step(taps, state, bit)[0]) for state in states for bit in (0, 1) if step(taps, state, bit)[1] == 0}
    for middle in states:
        ways |= {(first, last) for first in states for last in states if {(first, middle), (middle, last)} <= ways}
    return any((state, state) in ways for state in states)


def slow_spectrum(taps, most):
    """The number of detours of each weight, counted by their length; None if they come to no end."""
    states = 2 ** (len(taps[0]) - 1)
    found = [0] * (most + 1)
    state, ones = step(taps, 0, 1)
    here = {(state, ones): 1}
    for _ in range(states * (most + 2) + 2):
        following = {}
        for (state, weight), many in here.items():
            if weight > most:
                continue
            if state == 0:
                found[weight] += many
                continue
            for bit in (0, 1):
                after, ones = step(taps, state, bit)
                following[after, weight + ones] = following.get((after, weight + ones), 0) + many
        here = following
    return None if here else found


class FreeDistanceTest(unittest.TestCase):
    def test_points_100_and_102_against_all_short_detours(self):
        for taps in some_encoders():
            encoder = Encoder(taps)
            distance, detour = free_distance(encoder), lightest_detour(encoder)
            self.assertGreaterEqual(distance, 1)
            self.assertTrue(is_detour(taps, detour))
            self.assertEqual(sum(slow_word(taps, detour)), distance)
            detours = slow_detours(taps, max(8, len(detour)))
            for bits, weight in detours[:20]:
                self.assertEqual((is_detour(taps, bits), sum(fed(taps, bits)[0])), (True, weight))
            self.assertEqual(min(weight for _, weight in detours), distance)
            self.assertEqual([bits for bits, weight in detours if weight == distance][0], detour)

    def test_point_100_free_distance_from_the_weights(self):
        for taps in list(some_encoders()) + list(LONG_ENCODERS) + list(CATASTROPHIC):
            state, ones = step(taps, 0, 1)
            self.assertEqual(free_distance(Encoder(taps)), ones + slow_weights(taps)[state])

    def test_point_100_least_weight_of_a_message(self):
        for taps in some_encoders():
            words = [slow_word(taps, bits) for bits in all_bits(7)]
            least = min(sum(word) for word in words if any(word))
            self.assertLessEqual(free_distance(Encoder(taps)), least)
            if len(lightest_detour(Encoder(taps))) <= 7:
                self.assertEqual(free_distance(Encoder(taps)), least)

    def test_point_100_memory_0(self):
        for taps, weight in (([[1]], 1), ([[1], [0]], 1), ([[0], [1], [1]], 2), ([[1]] * 4, 4)):
            encoder = Encoder(taps)
            self.assertEqual((free_distance(encoder), lightest_detour(encoder)), (weight, [1]))
            self.assertEqual((weights_to_zero(encoder), silent_round(encoder)), ([0], None))
            self.assertEqual(spectrum(encoder, 5), [1 if at == weight else 0 for at in range(6)])

    def test_point_102_the_shortest_detour_and_then_the_first(self):
        self.assertEqual(lightest_detour(Encoder(SHORTER_WITH_A_ONE[0])), [1, 1, 0, 0, 0, 0])
        for taps in LONG_ENCODERS + SHORTER_WITH_A_ONE + ([[0] * 5 + [1]], [[0, 0, 0, 1, 0, 1], [0, 0, 0, 0, 1, 1]]):
            encoder = Encoder(taps)
            detour = lightest_detour(encoder)
            self.assertLessEqual(len(detour), 14)
            lightest = [bits for bits, weight in slow_detours(taps, len(detour)) if weight == free_distance(encoder)]
            self.assertEqual(lightest[0], detour)
        several = 0
        for taps in some_encoders():
            encoder = Encoder(taps)
            lightest = [bits for bits, weight in slow_detours(taps, 9) if weight == free_distance(encoder)]
            if len(lightest) > 1:
                several += 1
                self.assertEqual(lightest[0], lightest_detour(encoder))
        self.assertGreater(several, 5)

    def test_point_102_weights_to_zero(self):
        for taps in list(some_encoders()) + list(LONG_ENCODERS) + list(CATASTROPHIC):
            weights = weights_to_zero(Encoder(taps))
            self.assertEqual(weights, slow_weights(taps))
            self.assertEqual((weights[0], len(weights)), (0, 2 ** (len(taps[0]) - 1)))

    def slow_check(self, taps, distance, detour, weights):
        if not is_detour(taps, detour) or sum(fed(taps, detour)[0]) != distance or weights[0] > 0:
            return False
        for state in range(1, len(weights)):
            for bit in (0, 1):
                following, ones = step(taps, state, bit)
                if weights[state] > ones + weights[following]:
                    return False
        following, ones = step(taps, 0, 1)
        return distance <= ones + weights[following]

    def test_point_103_true_answers(self):
        for taps in list(ENCODERS) + list(LONG_ENCODERS) + list(CATASTROPHIC):
            encoder = Encoder(taps)
            distance, weights = free_distance(encoder), weights_to_zero(encoder)
            self.assertIs(check_free_distance(encoder, distance, lightest_detour(encoder), weights), True)
            for detour, weight in slow_detours(taps, 8):
                self.assertEqual(check_free_distance(encoder, weight, detour, weights), weight == distance)
            for wrong in (distance - 1, distance + 1, -distance, 0, 10 ** 20):
                self.assertIs(check_free_distance(encoder, wrong, lightest_detour(encoder), weights), False)

    def test_point_103_lists_that_are_no_detours(self):
        for taps in list(ENCODERS) + list(LONG_ENCODERS):
            encoder = Encoder(taps)
            distance, weights, detour = free_distance(encoder), weights_to_zero(encoder), lightest_detour(encoder)
            wrong = [[], [0], [0] + detour, detour + [0], detour + detour, detour + [1], detour[:-1], [2], [-1],
                     detour[:-1] + [2], [3] + detour[1:], [0] * len(detour), detour + [2]]
            for bits in wrong:
                for value in (distance, 0, sum(slow_word(taps, bits))):
                    self.assertIs(check_free_distance(encoder, value, bits, weights), False)
            # Not even weights that let everything pass make up for them.
            for bits in wrong:
                self.assertIs(check_free_distance(encoder, 0, bits, [-9] * len(weights)), False)

    def test_point_103_weights_that_are_changed_in_one_item(self):
        kinds = set()
        for taps in list(ENCODERS) + list(LONG_ENCODERS):
            encoder = Encoder(taps)
            distance, weights, detour = free_distance(encoder), weights_to_zero(encoder), lightest_detour(encoder)
            for at in range(len(weights)):
                for by in (-1, 1):
                    changed = list(weights)
                    changed[at] += by
                    expected = self.slow_check(taps, distance, detour, changed)
                    self.assertEqual(check_free_distance(encoder, distance, detour, changed), expected)
                    kinds.add((by, at == 0, expected))
        self.assertEqual({expected for by, _, expected in kinds if by == 1}, {False})
        self.assertIn((-1, False, True), kinds)
        self.assertIn((-1, False, False), kinds)
        self.assertIn((-1, True, False), kinds)

    def test_point_103_weights_of_another_length(self):
        for taps in ENCODERS:
            encoder = Encoder(taps)
            distance, weights, detour = free_distance(encoder), weights_to_zero(encoder), lightest_detour(encoder)
            for changed in ([], weights[:-1], weights + [0], weights + [-5], weights[1:], weights + weights):
                self.assertIs(check_free_distance(encoder, distance, detour, changed), False)

    def test_point_103_other_weights_that_show_the_distance(self):
        encoder = Encoder([[1, 0, 1], [1, 1, 0], [0, 0, 1]])
        self.assertEqual((free_distance(encoder), weights_to_zero(encoder)), (5, [0, 3, 2, 5]))
        self.assertTrue(check_free_distance(encoder, 5, [1, 0, 0], [0, 3, 2, 3]))
        self.assertTrue(check_free_distance(encoder, 5, [1, 0, 0], [0, 3, 2, 2]))
        for weights in ([0, 3, 2, 1], [0, 2, 2, 3], [1, 3, 2, 3], [-1, 3, 2, 3], [0, 3, 3, 3], [0, 4, 2, 5]):
            self.assertFalse(check_free_distance(encoder, 5, [1, 0, 0], weights), weights)
        # With the memory 0 the only item has to be 0.
        encoder = Encoder([[1], [1]])
        answers = [check_free_distance(encoder, 2, [1], [weight]) for weight in (-1, 0, 1)]
        self.assertEqual(answers, [False, True, False])

    def check_round(self, taps, states):
        self.assertTrue(states)
        self.assertEqual(len(set(states)), len(states))
        self.assertNotIn(0, states)
        for state, following in zip(states, states[1:] + states[:1]):
            self.assertIn((following, 0), [step(taps, state, bit) for bit in (0, 1)])

    def test_point_104_silent_rounds(self):
        with_round = 0
        for taps in list(some_encoders()) + list(LONG_ENCODERS) + list(CATASTROPHIC):
            encoder = Encoder(taps)
            states = silent_round(encoder)
            self.assertEqual(states is None, not has_silent_round(taps))
            if states is not None:
                with_round += 1
                self.check_round(taps, states)
                for most in (0, 5):
                    with self.assertRaises(Catastrophic) as caught:
                        spectrum(encoder, most)
                    self.check_round(taps, caught.exception.states)
        self.assertGreater(with_round, 20)

    def test_point_104_catastrophic_encoders(self):
        for taps in CATASTROPHIC:
            self.check_round(taps, silent_round(Encoder(taps)))
        self.assertEqual(silent_round(Encoder([[1, 1]])), [1])
        self.assertEqual(sorted(silent_round(Encoder([[1, 0, 1], [0, 0, 0]]))), [1, 2])
        self.assertEqual(sorted(silent_round(Encoder([[1, 1, 0, 0, 1, 1], [1, 0, 0, 0, 0, 1]]))), [31])

    def test_point_104_spectrum(self):
        for taps in some_encoders():
            expected = slow_spectrum(taps, 7)
            # Behind so many steps every way weighs more, unless there is a silent round.
            self.assertEqual(silent_round(Encoder(taps)) is None, expected is not None)
            if expected is not None:
                for most in (0, 1, 7):
                    self.assertEqual(spectrum(Encoder(taps), most), expected[:most + 1])
                first = [at for at, many in enumerate(spectrum(Encoder(taps), 40)) if many > 0][0]
                self.assertEqual(first, free_distance(Encoder(taps)))

    def test_point_104_long_spectra(self):
        for taps in (ENCODERS[9], ENCODERS[10], ENCODERS[15], ENCODERS[18], LONG_ENCODERS[0], LONG_ENCODERS[3]):
            counts = spectrum(Encoder(taps), 40)
            self.assertEqual(counts, slow_spectrum(taps, 40))
            self.assertEqual((len(counts), counts[0]), (41, 0))
            self.assertEqual(spectrum(Encoder(taps), 0), [0])

    def test_point_104_silent_steps_that_end(self):
        # From the state 1 a silent step leads to the state 2, and from there one to the state 0.
        encoder = Encoder([[1, 0, 0]])
        self.assertIsNone(silent_round(encoder))
        self.assertEqual(spectrum(encoder, 5), slow_spectrum([[1, 0, 0]], 5))
        encoder = Encoder([[0, 0, 1]])
        self.assertIsNone(silent_round(encoder))
        self.assertEqual(spectrum(encoder, 5), slow_spectrum([[0, 0, 1]], 5))

    def test_weight_counts(self):
        for taps in some_encoders():
            encoder = Encoder(taps)
            for length in range(6):
                expected = [0] * (len(taps) * (length + encoder.memory) + 1)
                for message in all_bits(length):
                    expected[sum(slow_word(taps, message))] += 1
                self.assertEqual(weight_counts(encoder, length), expected)

    def test_weight_counts_of_long_messages(self):
        for taps in LONG_ENCODERS:
            encoder = Encoder(taps)
            counts = weight_counts(encoder, 255)
            self.assertEqual(len(counts), encoder.outputs * (255 + encoder.memory) + 1)
            self.assertEqual(sum(counts), 2 ** 255)
            self.assertEqual(
                (counts[0], [at for at, many in enumerate(counts) if many > 0][1]),
                (1, free_distance(encoder)),
            )
            self.assertEqual(weight_counts(encoder, 10), enumerator(encoder.linear(10)))
        self.assertEqual(weight_counts(Encoder([[1]]), 3), [1, 3, 3, 1])
        self.assertEqual(
            (weight_counts(Encoder([[1]]), 0), weight_counts(Encoder([[1, 1], [0, 1]]), 0)),
            ([1], [1, 0, 0]),
        )
