"""Points 88 to 91: convolutional encoders."""

import random
import unittest

from nearestword.convolution import Encoder
from nearestword.errors import InvalidCode, InvalidEncoder, InvalidWord, NotInCode
from nearestword.fields import Field
from tests.support import ENCODERS, LONG_ENCODERS, all_bits, fed, slow_word


class EncoderTest(unittest.TestCase):
    def test_point_88_attributes(self):
        for taps in ENCODERS + LONG_ENCODERS:
            encoder = Encoder(taps)
            self.assertEqual(encoder.taps, tuple(tuple(tap) for tap in taps))
            self.assertEqual(encoder.memory, len(taps[0]) - 1)
            self.assertEqual(encoder.outputs, len(taps))
            self.assertEqual(encoder.state_count, 2 ** encoder.memory)
        self.assertEqual((Encoder([[1]]).memory, Encoder([[1]]).state_count), (0, 1))
        self.assertEqual((Encoder([[0] * 5 + [1]]).memory, Encoder([[0] * 5 + [1]]).state_count), (5, 32))

    def test_point_88_wrong_taps(self):
        wrong = [
            [], [[1]] * 5, [[1, 0]] * 5, [[]], [[], []], [[1], []], [[], [1]], [[1] * 7], [[0] * 6 + [1], [1] * 7],
            [[1, 0], [1]], [[1], [1, 0]], [[1, 0, 1], [1, 0, 1], [1, 0]], [[2]], [[1, 2]], [[1, 0], [0, -1]], [[1, 3]],
            [[0]], [[0, 0, 0]], [[0, 0], [0, 0]], [[0] * 6] * 4, [[1, 10 ** 20]], [[10 ** 20]],
        ]
        for taps in wrong:
            with self.subTest(taps):
                with self.assertRaises(InvalidEncoder):
                    Encoder(taps)
        for taps in ([[1]], [[1]] * 4, [[1] * 6] * 4, [[0] * 6] * 3 + [[0, 0, 0, 0, 0, 1]], [[0], [1]]):
            self.assertEqual(Encoder(taps).outputs, len(taps))

    def test_point_88_taps_may_be_changed(self):
        taps = [[1, 0, 1], [1, 1, 0]]
        encoder = Encoder(taps)
        taps[0][0] = 0
        taps[1].append(1)
        taps.append([1])
        self.assertEqual(encoder.taps, ((1, 0, 1), (1, 1, 0)))
        self.assertEqual(encoder.word_for([1, 0]), slow_word([[1, 0, 1], [1, 1, 0]], [1, 0]))

    def test_point_89_advance(self):
        for taps in ENCODERS + LONG_ENCODERS:
            encoder = Encoder(taps)
            for state in range(encoder.state_count):
                for bit in (0, 1):
                    register = bit + 2 * state
                    told = [sum(item * (register // 2 ** j % 2) for j, item in enumerate(tap)) % 2 for tap in taps]
                    answer = encoder.advance(state, bit)
                    self.assertEqual(answer, (register % 2 ** encoder.memory, told))
                    self.assertIsInstance(answer, tuple)
                    answer[1].append(7)
                    self.assertEqual(encoder.advance(state, bit)[1], told)

    def test_point_89_wrong_states_and_bits(self):
        for taps in ([[1]], [[1, 1]], [[1, 0, 1, 1, 0, 1]]):
            encoder = Encoder(taps)
            last = encoder.state_count - 1
            for state, bit in (
                (-1, 0), (last + 1, 0), (last + 1, 1), (-1, 2), (0, 2), (0, -1), (last, 2), (last, -1),
                (10 ** 20, 0),
            ):
                with self.assertRaises(InvalidWord):
                    encoder.advance(state, bit)
            self.assertEqual(encoder.advance(0, 0), (0, [0]))
            self.assertEqual(encoder.advance(last, 0)[0], (2 * last) % (last + 1))

    def test_point_90_words_and_states(self):
        for taps in ENCODERS:
            encoder = Encoder(taps)
            for k in range(7):
                words = []
                for message in all_bits(k):
                    word = encoder.word_for(message)
                    self.assertEqual(word, slow_word(taps, message))
                    self.assertEqual(len(word), len(taps) * (k + encoder.memory))
                    steps = message + [0] * encoder.memory
                    states = [fed(taps, steps[:at])[1] for at in range(len(steps) + 1)]
                    self.assertEqual(encoder.states_for(message), states)
                    self.assertEqual((states[0], states[-1]), (0, 0))
                    words.append(tuple(word))
                self.assertEqual(len(set(words)), 2 ** k)

    def test_point_90_the_empty_message(self):
        self.assertEqual((Encoder([[1]]).word_for([]), Encoder([[1]]).states_for([])), ([], [0]))
        encoder = Encoder([[1, 0, 1], [1, 1, 0], [0, 0, 1]])
        self.assertEqual((encoder.word_for([]), encoder.states_for([])), ([0] * 6, [0, 0, 0]))

    def test_point_90_long_messages(self):
        source = random.Random(90)
        for taps in ENCODERS + LONG_ENCODERS:
            encoder = Encoder(taps)
            message = [source.randrange(2) for _ in range(255)]
            word = encoder.word_for(message)
            self.assertEqual(word, slow_word(taps, message))
            self.assertEqual(len(word), encoder.outputs * (255 + encoder.memory))
            self.assertEqual(encoder.message_of(word), message)
            self.assertTrue(encoder.contains(word))
            states = encoder.states_for(message)
            self.assertEqual((len(states), states[0], states[-1]), (256 + encoder.memory, 0, 0))

    def test_point_90_wrong_messages(self):
        for taps in ([[1]], [[1, 0, 1], [1, 1, 0]]):
            encoder = Encoder(taps)
            for message in ([2], [-1], [0, 1, 2], [1, 0, -1, 0], [2] * 300, [10 ** 20]):
                for call in (encoder.word_for, encoder.states_for):
                    with self.assertRaises(InvalidWord):
                        call(message)

    def test_points_90_and_91_every_word(self):
        for taps in ENCODERS:
            encoder = Encoder(taps)
            for length in range(10):
                k = length // len(taps) - encoder.memory
                if length % len(taps) != 0 or k < 0:
                    for call in (encoder.message_of, encoder.contains):
                        with self.assertRaises(InvalidWord):
                            call([0] * length)
                    continue
                message_of = {tuple(slow_word(taps, message)): message for message in all_bits(k)}
                for word in all_bits(length):
                    inside = tuple(word) in message_of
                    self.assertEqual(encoder.contains(word), inside)
                    if inside:
                        self.assertEqual(encoder.message_of(word), message_of[tuple(word)])
                    else:
                        with self.assertRaises(NotInCode):
                            encoder.message_of(word)

    def test_point_91_words_beside_long_ones(self):
        source = random.Random(91)
        for taps in LONG_ENCODERS:
            encoder = Encoder(taps)
            word = encoder.word_for([source.randrange(2) for _ in range(254)])
            self.assertGreater(len(word), 255)
            for at in source.sample(range(len(word)), 20) + [0, len(word) - 1]:
                changed = list(word)
                changed[at] = 1 - changed[at]
                if encoder.outputs > 1:
                    self.assertFalse(encoder.contains(changed))
                    with self.assertRaises(NotInCode):
                        encoder.message_of(changed)

    def test_point_91_wrong_words(self):
        encoder = Encoder([[1, 0, 1], [1, 1, 0], [0, 0, 1]])
        # The last ones have an item that is wrong and are in no other way the word of a message.
        wrong = [
            [], [0] * 3, [0] * 5, [0] * 7, [0] * 8, [0] * 256, [None] * 6, [0] * 5 + [None], [2] + [0] * 5,
            [0] * 8 + [-1],
            [1, 1, 1, 1, 1, 1, 1, 1, 2], [1, 1, 1, 1, 1, 1, 1, 1, None], [1] * 10, [10 ** 20] * 6,
        ]
        for word in wrong:
            for call in (encoder.message_of, encoder.contains):
                with self.subTest(word=word, call=call.__name__):
                    with self.assertRaises(InvalidWord):
                        call(word)
        with self.assertRaises(NotInCode):
            encoder.message_of([1] * 9)
        with self.assertRaises(NotInCode):
            encoder.message_of([0] * 5 + [1])
        self.assertEqual(encoder.message_of([0] * 6), [])
        self.assertEqual(Encoder([[0], [1]]).message_of([]), [])
        self.assertTrue(Encoder([[0], [1]]).contains([]))

    def test_point_91_linear(self):
        for taps in ENCODERS:
            encoder = Encoder(taps)
            for length in range(7):
                words = sorted(slow_word(taps, message) for message in all_bits(length))
                if words == [[]]:
                    with self.assertRaises(InvalidCode):
                        encoder.linear(length)
                    continue
                code = encoder.linear(length)
                self.assertEqual((code.words(), code.dimension), (words, length))
                self.assertTrue(code.field.same_as(Field(2)))
                self.assertEqual(code.length, len(words[0]))

    def test_point_91_linear_limits(self):
        self.assertEqual(Encoder([[1, 1]]).linear(0).rows, [])
        self.assertEqual(Encoder([[1, 1]]).linear(0).length, 1)
        for taps, length in (
            ([[1]], 255), ([[1, 0, 1], [1, 1, 0], [0, 0, 1]], 83), ([[1] * 6] * 3, 80), ([[0, 1]], 254),
        ):
            code = Encoder(taps).linear(length)
            self.assertEqual((code.length, code.dimension), (255, length))
            self.assertTrue(code.contains(Encoder(taps).word_for([1, 0, 1] * (length // 3) + [1] * (length % 3))))
            for longer in (length + 1, length + 100, 10 ** 20):
                with self.assertRaises(InvalidCode):
                    Encoder(taps).linear(longer)
        for taps in ([[1]], [[1], [1]]):
            with self.assertRaises(InvalidCode):
                Encoder(taps).linear(0)
