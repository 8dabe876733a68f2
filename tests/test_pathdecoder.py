"""Points 96 to 99: decoding step by step."""

import random
import unittest

from nearestword.convolution import Encoder
from nearestword.errors import InvalidWord
from nearestword.pathdecoder import PathDecoder
from nearestword.trellis import best_path, nearest_messages
from tests.support import ENCODERS, LONG_ENCODERS, all_bits, differing, fed, some_received


def slow_state(taps, received):
    """The costs and the settled bits, found by comparing all beginnings."""
    steps = len(received) // len(taps)
    lightest = {}
    for bits in all_bits(steps):
        told, state = fed(taps, bits)
        lightest.setdefault(state, []).append((differing(told, received), bits))
    costs = [None] * 2 ** (len(taps[0]) - 1)
    beginnings = []
    for state, pairs in lightest.items():
        costs[state] = min(pairs)[0]
        beginnings += [bits for cost, bits in pairs if cost == costs[state]]
    settled = []
    for column in zip(*beginnings):
        if len(set(column)) > 1:
            break
        settled.append(column[0])
    return costs, settled


def parts_of(received, outputs):
    return [received[at:at + outputs] for at in range(0, len(received), outputs)]


def noisy(source, encoder, k, percent):
    """The word of a message, with about so many in a hundred items changed or erased."""
    word = encoder.word_for([source.randrange(2) for _ in range(k)])
    return [item if source.randrange(100) >= percent else source.choice((None, 1 - item)) for item in word]


class PathDecoderTest(unittest.TestCase):
    def test_points_96_and_97_small_numbers_of_steps(self):
        source = random.Random(96)
        for taps in ENCODERS:
            encoder = Encoder(taps)
            for erased in (0, 0, 0, 20, 50, 100):
                received = some_received(source, encoder.outputs * 8, erased)
                decoder = PathDecoder(encoder)
                taken, told = [], []
                for items in parts_of(received, encoder.outputs):
                    told += decoder.take(items)
                    taken += items
                    costs, settled = slow_state(taps, taken)
                    self.assertEqual(decoder.costs, costs)
                    self.assertEqual(decoder.settled, settled)
                    self.assertEqual(told, settled)
                    self.assertEqual(decoder.steps * encoder.outputs, len(taken))

    def test_points_96_and_97_long_memories(self):
        source = random.Random(960)
        for taps in LONG_ENCODERS:
            encoder = Encoder(taps)
            received = noisy(source, encoder, 5, 15)
            decoder = PathDecoder(encoder)
            for at, items in enumerate(parts_of(received, encoder.outputs)[:10]):
                decoder.take(items)
                costs, settled = slow_state(taps, received[:encoder.outputs * (at + 1)])
                self.assertEqual((decoder.costs, decoder.settled), (costs, settled))

    def test_point_97_without_any_steps(self):
        for taps in ENCODERS + LONG_ENCODERS:
            encoder = Encoder(taps)
            decoder = PathDecoder(encoder)
            self.assertIs(decoder.encoder, encoder)
            self.assertEqual((decoder.steps, decoder.settled), (0, []))
            self.assertEqual(decoder.costs, [0] + [None] * (encoder.state_count - 1))

    def test_point_97_fewer_steps_than_the_memory(self):
        for taps in ENCODERS + LONG_ENCODERS:
            encoder = Encoder(taps)
            decoder = PathDecoder(encoder)
            for steps in range(1, encoder.memory + 2):
                self.assertEqual(decoder.take([None] * encoder.outputs), [])
                known = min(2 ** steps, encoder.state_count)
                self.assertEqual(decoder.costs, [0] * known + [None] * (encoder.state_count - known))

    def test_point_97_settled_bits_of_the_memory_0(self):
        decoder = PathDecoder(Encoder([[1], [1]]))
        self.assertEqual([decoder.take([1, 1]), decoder.take([None, 0]), decoder.take([1, None])], [[1], [0], [1]])
        # Both bits cost as much: nothing behind them is ever settled.
        self.assertEqual([decoder.take([0, 1]), decoder.take([1, 1])], [[], []])
        self.assertEqual((decoder.settled, decoder.costs), ([1, 0, 1], [1]))
        # The second tap has no part in the output.
        silent = PathDecoder(Encoder([[1], [0]]))
        self.assertEqual([silent.take([1, 1]), silent.take([0, 1]), silent.costs], [[1], [0], [2]])

    def test_point_97_taken_items_may_be_erased(self):
        decoder = PathDecoder(Encoder([[1, 0, 1], [1, 1, 1]]))
        for _ in range(400):
            self.assertEqual(decoder.take([None, None]), [])
        self.assertEqual((decoder.costs, decoder.settled, decoder.steps), ([0] * 4, [], 400))

    def test_point_98_settled_bits_stay(self):
        source = random.Random(98)
        for taps in ENCODERS + LONG_ENCODERS:
            encoder = Encoder(taps)
            for percent in (0, 5, 20):
                received = noisy(source, encoder, 120, percent)
                decoder = PathDecoder(encoder)
                before, told = [], []
                for items in parts_of(received, encoder.outputs):
                    bits = decoder.take(items)
                    self.assertEqual(decoder.settled, before + bits)
                    before = decoder.settled
                    told += bits
                self.assertEqual(told, decoder.settled)
                # Some nearest messages are enough where there are many of them.
                for message, _ in zip(nearest_messages(encoder, received), range(50)):
                    self.assertEqual((message + [0] * encoder.memory)[:len(before)], before)

    def test_point_98_later_messages_start_with_what_is_settled_now(self):
        source = random.Random(980)
        for taps in ENCODERS:
            encoder = Encoder(taps)
            for _ in range(6):
                received = noisy(source, encoder, 4 + source.randrange(4), 12)
                decoder = PathDecoder(encoder)
                for items in parts_of(received, encoder.outputs)[:encoder.memory + 3]:
                    decoder.take(items)
                settled = decoder.settled
                for _ in range(4):
                    later = received[:encoder.outputs * decoder.steps] + some_received(source, encoder.outputs * 4)
                    for message in nearest_messages(encoder, later):
                        self.assertEqual((message + [0] * encoder.memory)[:len(settled)], settled)

    def test_point_98_something_is_settled(self):
        encoder = Encoder([[1, 0, 1, 1, 1, 1], [1, 1, 0, 1, 0, 1]])
        message = [1, 0, 0, 1, 1] * 40
        decoder = PathDecoder(encoder)
        for items in parts_of(encoder.word_for(message), 2):
            decoder.take(items)
        self.assertGreater(len(decoder.settled), 180)
        self.assertEqual(decoder.settled, (message + [0] * 5)[:len(decoder.settled)])

    def test_point_98_beginnings_that_never_meet(self):
        # Only zeros and only ones differ in nothing but the first step; nothing can be settled.
        decoder = PathDecoder(Encoder([[1, 1], [1, 1]]))
        for items in [[1, 0]] + [[0, 0]] * 300:
            self.assertEqual(decoder.take(items), [])
        self.assertEqual((decoder.settled, decoder.costs), ([], [1, 1]))

    def test_point_99_answer(self):
        source = random.Random(99)
        for taps in ENCODERS + LONG_ENCODERS:
            encoder = Encoder(taps)
            received = noisy(source, encoder, 12, 15)
            decoder = PathDecoder(encoder)
            for steps in range(12 + encoder.memory + 1):
                taken = received[:encoder.outputs * steps]
                if steps < encoder.memory:
                    with self.assertRaises(InvalidWord):
                        decoder.answer()
                else:
                    self.assertEqual(decoder.answer(), best_path(encoder, taken))
                if steps < 12 + encoder.memory:
                    decoder.take(received[encoder.outputs * steps:encoder.outputs * (steps + 1)])
        self.assertEqual(PathDecoder(Encoder([[1], [1]])).answer(), (0, [], 1))

    def test_point_96_wrong_steps_change_nothing(self):
        for taps in ([[1, 0, 1], [1, 1, 1]], [[1], [1]]):
            decoder = PathDecoder(Encoder(taps))
            for items in ([1, 1], [0, None], [1, 0]):
                for wrong in ([], [1], [0, 1, 0], [2, 0], [0, 2], [0, -1], [None, 2], [None], [10 ** 20, 0]):
                    before = (decoder.costs, decoder.settled, decoder.steps)
                    with self.assertRaises(InvalidWord):
                        decoder.take(wrong)
                    self.assertEqual((decoder.costs, decoder.settled, decoder.steps), before)
                decoder.take(items)
            self.assertEqual(decoder.steps, 3)
            self.assertEqual(decoder.answer(), best_path(decoder.encoder, [1, 1, 0, None, 1, 0]))

    def test_point_96_restart(self):
        source = random.Random(961)
        for taps in ENCODERS + LONG_ENCODERS:
            encoder = Encoder(taps)
            fresh, used = PathDecoder(encoder), PathDecoder(encoder)
            for _ in range(12):
                used.take(some_received(source, encoder.outputs))
            self.assertIsNone(used.restart())
            self.assertEqual((used.costs, used.settled, used.steps), (fresh.costs, [], 0))
            self.assertIs(used.encoder, encoder)
            for _ in range(12):
                items = some_received(source, encoder.outputs)
                self.assertEqual(used.take(items), fresh.take(items))
                self.assertEqual((used.costs, used.settled, used.steps), (fresh.costs, fresh.settled, fresh.steps))
            self.assertEqual(used.answer(), fresh.answer())

    def test_point_96_two_decoders_in_turn(self):
        source = random.Random(962)
        encoder = Encoder([[1, 0, 1], [1, 1, 1]])
        received = [noisy(source, encoder, 30, 10) for _ in range(2)]
        alone = [PathDecoder(encoder) for _ in range(2)]
        in_turn = [PathDecoder(encoder) for _ in range(2)]
        told = [[[], []], [[], []]]
        for which in range(2):
            for items in parts_of(received[which], 2):
                told[0][which] += alone[which].take(items)
        for at in range(32):
            for which in range(2):
                told[1][which] += in_turn[which].take(received[which][2 * at:2 * at + 2])
        self.assertEqual(told[0], told[1])
        for one, other in zip(alone, in_turn):
            self.assertEqual((one.costs, one.settled, one.answer()), (other.costs, other.settled, other.answer()))

    def test_points_3_and_97_lists_may_be_changed(self):
        encoder = Encoder([[1], [1]])
        decoder = PathDecoder(encoder)
        items = [1, 1]
        bits = decoder.take(items)
        items[0] = 0
        items.append(1)
        bits.append(7)
        decoder.costs[0] = 9
        decoder.settled.append(5)
        decoder.answer()[1].append(3)
        self.assertEqual((decoder.costs, decoder.settled, decoder.answer()), ([0], [1], (0, [1], 1)))
        self.assertEqual(decoder.take([0, 0]), [0])
        self.assertEqual((decoder.settled, decoder.answer()), ([1, 0], (0, [1, 0], 1)))
