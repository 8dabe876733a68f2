"""Points 92 to 95 and 101: the messages that are nearest to a received word."""

import itertools
import random
import unittest

from nearestword.convolution import Encoder
from nearestword.errors import InvalidWord
from nearestword.freedistance import free_distance
from nearestword.trellis import best_path, check_path, costs_to_go, nearest_messages
from tests.support import ENCODERS, LONG_ENCODERS, all_bits, deep_copy, differing, fed, slow_word, some_received


def slow_answer(taps, received, k):
    """The least distance and the nearest messages, found by comparing all messages."""
    pairs = [(differing(slow_word(taps, message), received), message) for message in all_bits(k)]
    least = min(distance for distance, _ in pairs)
    return least, [message for distance, message in pairs if distance == least]


def slow_cost_to_go(taps, received, k, step, state):
    """The least number of differing positions of all ways that go on from the state in the step."""
    memory, outputs = len(taps[0]) - 1, len(taps)
    # These bits lead to the state.
    before = [state >> place & 1 for place in reversed(range(memory))]
    last = k + memory
    feeding = max(0, k - step)
    costs = []
    for bits in all_bits(feeding):
        steps = bits + [0] * (last - step - feeding)
        told = fed(taps, before + steps)[0][outputs * memory:]
        costs.append(differing(told, received[outputs * step:]))
    return min(costs)


def cases(seed, most):
    """Encoders and received words for small numbers of bits."""
    source = random.Random(seed)
    for taps in ENCODERS:
        memory, outputs = len(taps[0]) - 1, len(taps)
        for k in range(most + 1):
            length = outputs * (k + memory)
            for erased in (0, 0, 25, 60, 100):
                yield taps, k, some_received(source, length, erased)
            yield taps, k, slow_word(taps, [source.randrange(2) for _ in range(k)])


class TrellisTest(unittest.TestCase):
    def test_points_92_and_93_nearest_messages(self):
        for taps, k, received in cases(93, 6):
            encoder = Encoder(taps)
            least, messages = slow_answer(taps, received, k)
            self.assertEqual(best_path(encoder, received), (least, messages[0], len(messages)))
            self.assertEqual(list(nearest_messages(encoder, received)), messages)

    def test_point_93_kinds(self):
        encoder = Encoder([[1, 0, 1], [1, 1, 1]])
        answer = best_path(encoder, [None] * 12)
        self.assertIsInstance(answer, tuple)
        self.assertEqual(answer, (0, [0, 0, 0, 0], 16))
        messages = nearest_messages(encoder, [None] * 12)
        self.assertIs(iter(messages), messages)
        self.assertEqual(next(messages), [0, 0, 0, 0])

    def test_points_92_and_93_the_empty_message(self):
        self.assertEqual(best_path(Encoder([[1], [1]]), []), (0, [], 1))
        self.assertEqual(list(nearest_messages(Encoder([[1], [1]]), [])), [[]])
        self.assertEqual(costs_to_go(Encoder([[1], [1]]), []), [[0]])
        encoder = Encoder([[1, 0, 1], [1, 1, 0]])
        self.assertEqual(best_path(encoder, [1, None, 0, 1]), (2, [], 1))
        self.assertEqual(list(nearest_messages(encoder, [1, None, 0, 1])), [[]])
        self.assertEqual(costs_to_go(encoder, [1, None, 0, 1])[0][0], 2)

    def test_point_93_large_counts(self):
        for taps in ENCODERS[:3] + ENCODERS[9:11] + LONG_ENCODERS:
            encoder = Encoder(taps)
            length = encoder.outputs * (255 + encoder.memory)
            self.assertEqual(best_path(encoder, [None] * length), (0, [0] * 255, 2 ** 255))
            first = list(itertools.islice(nearest_messages(encoder, [None] * length), 5))
            ends = [[0, 0, 0], [0, 0, 1], [0, 1, 0], [0, 1, 1], [1, 0, 0]]
            self.assertEqual(first, [[0] * 252 + end for end in ends])

    def test_point_93_long_words(self):
        source = random.Random(930)
        for taps in ENCODERS[8:] + LONG_ENCODERS:
            encoder = Encoder(taps)
            message = [source.randrange(2) for _ in range(255)]
            word = encoder.word_for(message)
            self.assertEqual(best_path(encoder, word), (0, message, 1))
            self.assertEqual(list(nearest_messages(encoder, word)), [message])
            received = some_received(source, len(word), 10)
            distance, first, count = best_path(encoder, received)
            few = list(itertools.islice(nearest_messages(encoder, received), 40))
            self.assertEqual((few[0], len(few)), (first, min(40, count)))
            self.assertEqual(few, sorted(few))
            self.assertEqual(len({tuple(bits) for bits in few}), len(few))
            for bits in few:
                self.assertEqual(differing(slow_word(taps, bits), received), distance)
            table = costs_to_go(encoder, received)
            self.assertEqual((len(table), table[0][0]), (256 + encoder.memory, distance))
            self.assertTrue(check_path(encoder, received, distance, first, table))

    def test_point_93_yielded_messages_may_be_changed(self):
        encoder = Encoder([[1, 0, 1], [1, 1, 1]])
        received = [None] * 8 + [1, None] * 2
        expected = slow_answer([[1, 0, 1], [1, 1, 1]], received, 4)[1]
        self.assertGreater(len(expected), 2)
        found = []
        for message in nearest_messages(encoder, received):
            found.append(list(message))
            message.reverse()
            message.append(7)
        self.assertEqual(found, expected)
        first = nearest_messages(encoder, received)
        second = nearest_messages(encoder, received)
        self.assertEqual([next(first), next(second), next(first)], [expected[0], expected[0], expected[1]])

    def test_point_94_costs_to_go(self):
        for taps, k, received in cases(94, 4):
            encoder = Encoder(taps)
            table = costs_to_go(encoder, received)
            steps = k + encoder.memory
            self.assertEqual([len(row) for row in table], [encoder.state_count] * (steps + 1))
            expected = [
                [slow_cost_to_go(taps, received, k, step, state) for state in range(encoder.state_count)]
                for step in range(steps + 1)
            ]
            self.assertEqual(table, expected)

    def test_point_94_steps_below_k_and_later_ones(self):
        encoder = Encoder([[1, 1]])
        # With the 0 alone, the state 0 has the output 0 in the last step; before it, either bit may be fed.
        self.assertEqual(costs_to_go(encoder, [1, 1]), [[0, 1], [1, 0], [0, 0]])
        self.assertEqual(costs_to_go(encoder, [1]), [[1, 0], [0, 0]])
        # A way may end in any state.
        self.assertEqual(costs_to_go(Encoder([[1, 0]]), [1, 0]), [[0, 0], [0, 0], [0, 0]])

    def test_point_92_wrong_received_words(self):
        encoder = Encoder([[1, 0, 1], [1, 1, 0], [0, 0, 1]])
        table = [[0] * 4] * 3
        wrong = [
            [], [0] * 3, [0] * 5, [0] * 7, [None] * 8, [2] + [0] * 5, [0] * 5 + [2], [0] * 5 + [-1], [None] * 5 + [3],
            [10 ** 20] * 9,
        ]
        for received in wrong:
            with self.subTest(received):
                for call in (best_path, costs_to_go):
                    with self.assertRaises(InvalidWord):
                        call(encoder, received)
                with self.assertRaises(InvalidWord):
                    list(nearest_messages(encoder, received))
                for distance, message, costs in ((0, [], table), (-1, [2], []), (0, [0] * 9, [[]])):
                    with self.assertRaises(InvalidWord):
                        check_path(encoder, received, distance, message, costs)
        with self.assertRaises(InvalidWord):
            best_path(Encoder([[1], [1]]), [0])

    def test_point_95_true_answers(self):
        for taps, k, received in cases(95, 4):
            encoder = Encoder(taps)
            table = costs_to_go(encoder, received)
            least, messages = slow_answer(taps, received, k)
            for message in all_bits(k):
                self.assertEqual(check_path(encoder, received, least, message, table), message in messages)

    def test_point_95_wrong_distances_and_messages(self):
        for taps, k, received in cases(950, 3):
            encoder = Encoder(taps)
            table = costs_to_go(encoder, received)
            least, message, _ = best_path(encoder, received)
            self.assertIs(check_path(encoder, received, least, message, table), True)
            for distance in (least - 1, least + 1, -1 - least, 10 ** 20):
                self.assertIs(check_path(encoder, received, distance, message, table), False)
            wrong = [message + [0], [2] * k + [2], [None] * (k + 1), message[1:] + [2, 2]]
            if k > 0:
                wrong += [message[1:], message[:-1] + [2], [-1] + message[1:]]
            for bits in wrong:
                self.assertIs(check_path(encoder, received, least, bits, table), False)

    def test_point_95_a_farther_message_with_its_own_distance(self):
        for taps, k, received in cases(951, 3):
            encoder = Encoder(taps)
            table = costs_to_go(encoder, received)
            least, messages = slow_answer(taps, received, k)
            for message in all_bits(k):
                distance = differing(slow_word(taps, message), received)
                self.assertEqual(check_path(encoder, received, distance, message, table), message in messages)

    def slow_check(self, taps, received, k, distance, message, costs):
        """The conditions of the point, one after another, for a table of the right form."""
        memory, outputs = len(taps[0]) - 1, len(taps)
        if differing(slow_word(taps, message), received) != distance or any(item > 0 for item in costs[-1]):
            return False
        for step in range(k + memory):
            for state in range(2 ** memory):
                for bit in (0, 1) if step < k else (0,):
                    before = [state >> place & 1 for place in reversed(range(memory))]
                    told, following = fed(taps, before + [bit])
                    there = received[outputs * step:outputs * (step + 1)]
                    if costs[step][state] > differing(told[outputs * memory:], there) + costs[step + 1][following]:
                        return False
        return costs[0][0] >= distance

    def test_point_95_tables_that_differ_in_one_item(self):
        kinds = set()
        for taps, k, received in cases(952, 2):
            encoder = Encoder(taps)
            table = costs_to_go(encoder, received)
            least, message, _ = best_path(encoder, received)
            for at, row in enumerate(table):
                for state in range(len(row)):
                    for by in (-1, 1):
                        changed = deep_copy(table)
                        changed[at][state] += by
                        expected = self.slow_check(taps, received, k, least, message, changed)
                        self.assertEqual(check_path(encoder, received, least, message, changed), expected)
                        kinds.add((by, at == 0, at == len(table) - 1, state == 0, expected))
        # One more is always wrong: each item is the greatest that the next row lets it be.
        self.assertEqual({expected for by, *_, expected in kinds if by == 1}, {False})
        self.assertIn((-1, False, False, False, True), kinds)
        self.assertIn((-1, True, False, True, False), kinds)

    def test_point_95_tables_of_another_form(self):
        for taps, k, received in cases(953, 2):
            encoder = Encoder(taps)
            table = costs_to_go(encoder, received)
            least, message, _ = best_path(encoder, received)
            low = [[-9] * encoder.state_count]
            wrong = [[], table[1:], table[:-1], table + low, low + table, table + [[]], [[]] * len(table)]
            for at in range(len(table)):
                wrong.append(table[:at] + [table[at] + [-9]] + table[at + 1:])
                wrong.append(table[:at] + [table[at][:-1]] + table[at + 1:])
            for costs in wrong:
                self.assertIs(check_path(encoder, received, least, message, costs), False)

    def test_point_95_low_tables(self):
        encoder = Encoder([[1, 0, 1], [1, 1, 1]])
        received = encoder.word_for([1, 0, 1])
        self.assertTrue(check_path(encoder, received, 0, [1, 0, 1], [[0] * 4] * 6))
        self.assertFalse(check_path(encoder, received, 0, [1, 0, 1], [[-1] * 4] * 6))
        # The last row may be below 0, and so may every row but the first item of all.
        table = [[0, -5, -5, -5]] + [[0] * 4] * 4 + [[0, -1, 0, -3]]
        self.assertTrue(check_path(encoder, received, 0, [1, 0, 1], table))
        self.assertFalse(check_path(encoder, received, 0, [1, 0, 1], [[0] * 4] * 5 + [[0, 0, 0, 1]]))

    def test_point_101_as_many_errors_as_the_free_distance_lets(self):
        source = random.Random(101)
        for taps in ENCODERS + LONG_ENCODERS:
            encoder = Encoder(taps)
            free = free_distance(encoder)
            for k in (0, 1, 2, 5, 40, 255):
                message = [source.randrange(2) for _ in range(k)]
                word = encoder.word_for(message)
                for errors in range((free - 1) // 2 + 1):
                    erased = free - 1 - 2 * errors
                    if len(word) < errors + erased:
                        continue
                    places = source.sample(range(len(word)), errors + erased)
                    received = list(word)
                    for at in places[:errors]:
                        received[at] = 1 - received[at]
                    for at in places[errors:]:
                        received[at] = None
                    self.assertEqual(best_path(encoder, received), (errors, message, 1))
                    self.assertEqual(list(nearest_messages(encoder, received)), [message])

    def test_point_101_one_more_is_too_many(self):
        # The positions of a lightest word may all be erased: then that word is as near as the zero word.
        for taps in ENCODERS:
            encoder = Encoder(taps)
            light = min((encoder.word_for(bits) for bits in all_bits(6)[1:]), key=sum)
            received = [None if item == 1 else 0 for item in light]
            if sum(light) == free_distance(encoder):
                self.assertGreater(best_path(encoder, received)[2], 1)
