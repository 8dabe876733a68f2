"""Points 122 to 125: the workshop."""

import random
import unittest
from unittest import mock

from nearestword.errors import InvalidCode, InvalidWord, NameTaken, NothingToRedo, NothingToUndo, TooLarge, UnknownName
from nearestword.families import hamming_code, parity_code, repetition_code, whole_code, zero_code
from nearestword.fields import Field, standard_field
from nearestword.linear import LinearCode
from nearestword.nearest import nearest
from nearestword.workshop import Trial, Workshop

TWO = Field(2)
THREE = Field(3)
ODD = parity_code(TWO, 3)
SAME = repetition_code(TWO, 3)
WIDE = whole_code(TWO, 13)


def state_of(workshop):
    """The names, the codes and what was received for them."""
    return [(name, workshop.code_of(name), workshop.received_words(name)) for name in workshop.code_names()]


def whole_state(workshop):
    """The state now, and all states that can be restored or that come back when changes are taken back."""
    now = state_of(workshop)
    behind = []
    while True:
        try:
            workshop.redo()
        except NothingToRedo:
            break
        behind.append(state_of(workshop))
    for _ in behind:
        workshop.undo()
    before = []
    while True:
        try:
            workshop.undo()
        except NothingToUndo:
            break
        before.append(state_of(workshop))
    for _ in before:
        workshop.redo()
    assert state_of(workshop) == now
    return now, before, behind


def filled():
    """A workshop with a change to undo and one to redo."""
    workshop = Workshop()
    workshop.add_code("a", ODD)
    workshop.add_code("b", SAME)
    workshop.receive("a", [1, 1, 1])
    workshop.receive("b", [0, None, 1])
    workshop.undo()
    return workshop


def failing_calls(workshop):
    """Pairs of a call that raises in the workshop that `filled` makes, and its error."""
    deeds = [("add", "c", ODD), ("receive", "a", [0, 0, 0]), ("remove", "x")]
    yield lambda: workshop.add_code("a", SAME), NameTaken
    yield lambda: workshop.replace_code("x", ODD), UnknownName
    yield lambda: workshop.replace_code("a", parity_code(TWO, 4)), InvalidCode
    yield lambda: workshop.remove_code("x"), UnknownName
    yield lambda: workshop.receive("x", [0, 0, 0]), UnknownName
    yield lambda: workshop.receive("a", [0, 0]), InvalidWord
    yield lambda: workshop.change_all(deeds), UnknownName
    yield lambda: workshop.change_all([("all", deeds)]), UnknownName


def asking_calls(workshop):
    """Calls that are no changes."""
    yield workshop.code_names
    yield lambda: workshop.code_of("a")
    yield lambda: workshop.received_words("a")
    yield lambda: workshop.answers("a")
    yield lambda: workshop.answers("b")
    yield lambda: workshop.computed
    yield workshop.trial
    yield lambda: workshop.change_all([])
    yield lambda: workshop.change_all([("all", []), ("all", [("all", [])])])


class CodesTest(unittest.TestCase):
    def test_point_122_a_new_workshop_is_empty(self):
        workshop = Workshop()
        self.assertEqual((workshop.code_names(), workshop.computed), ([], 0))
        with self.assertRaises(NothingToUndo):
            workshop.undo()
        with self.assertRaises(NothingToRedo):
            workshop.redo()

    def test_point_122_order_of_the_names(self):
        workshop = Workshop()
        for name in ("b", "a", "c", "a b\nc"):
            self.assertIsNone(workshop.add_code(name, ODD))
        self.assertEqual(workshop.code_names(), ["b", "a", "c", "a b\nc"])
        self.assertIsNone(workshop.remove_code("a"))
        self.assertEqual(workshop.code_names(), ["b", "c", "a b\nc"])
        workshop.add_code("a", SAME)
        self.assertEqual(workshop.code_names(), ["b", "c", "a b\nc", "a"])
        self.assertIsNone(workshop.replace_code("b", SAME))
        workshop.receive("c", [0, 0, 0])
        self.assertEqual(workshop.code_names(), ["b", "c", "a b\nc", "a"])
        for names in [["b", "c", "a b\nc", "a"]] * 3 + [["b", "c", "a b\nc"], ["b", "a", "c", "a b\nc"]]:
            self.assertEqual(workshop.code_names(), names)
            self.assertIsNone(workshop.undo())
        self.assertEqual(workshop.code_names(), ["b", "a", "c"])
        for names in (["b", "a", "c", "a b\nc"], ["b", "c", "a b\nc"], ["b", "c", "a b\nc", "a"]):
            self.assertIsNone(workshop.redo())
            self.assertEqual(workshop.code_names(), names)

    def test_point_122_codes_and_received_words(self):
        workshop = Workshop()
        workshop.add_code("a", ODD)
        self.assertEqual(
            [workshop.receive("a", [1, None, 0]), workshop.receive("a", [1, 1, 1]), workshop.receive("a", [1, 1, 1])],
            [0, 1, 2],
        )
        workshop.add_code("b", ODD)
        self.assertEqual(workshop.receive("b", [None] * 3), 0)
        self.assertIs(workshop.code_of("a"), ODD)
        self.assertEqual(workshop.received_words("a"), [[1, None, 0], [1, 1, 1], [1, 1, 1]])
        workshop.replace_code("a", SAME)
        self.assertIs(workshop.code_of("a"), SAME)
        self.assertEqual(workshop.received_words("a"), [[1, None, 0], [1, 1, 1], [1, 1, 1]])
        workshop.remove_code("a")
        workshop.add_code("a", ODD)
        self.assertEqual((workshop.received_words("a"), workshop.received_words("b")), ([], [[None] * 3]))
        self.assertEqual(workshop.receive("a", [0, 0, 0]), 0)

    def test_point_122_names_that_are_taken_or_unknown(self):
        workshop = Workshop()
        workshop.add_code("a", ODD)
        with self.assertRaises(NameTaken) as caught:
            workshop.add_code("a", SAME)
        self.assertEqual(caught.exception.name, "a")
        calls = [
            lambda: workshop.replace_code("b", parity_code(THREE, 9)), lambda: workshop.remove_code("b"),
            lambda: workshop.receive("b", [7]), lambda: workshop.code_of("b"), lambda: workshop.received_words("b"),
            lambda: workshop.answers("b"),
        ]
        for call in calls:
            with self.assertRaises(UnknownName) as caught:
                call()
            self.assertEqual(caught.exception.name, "b")
        workshop.remove_code("a")
        with self.assertRaises(UnknownName):
            workshop.code_of("a")

    def test_point_122_replacements(self):
        workshop = Workshop()
        workshop.add_code("a", parity_code(standard_field(4), 3))
        for code in (
            parity_code(standard_field(4), 2), parity_code(standard_field(4), 4), parity_code(TWO, 3),
            parity_code(Field(5), 3),
            parity_code(Field(2, (1, 0, 1, 1)), 3),
        ):
            with self.assertRaises(InvalidCode):
                workshop.replace_code("a", code)
        workshop.replace_code("a", zero_code(Field(2, (1, 1, 1)), 3))
        self.assertEqual(workshop.code_of("a").dimension, 0)
        workshop.add_code("b", parity_code(Field(5), 3))
        with self.assertRaises(InvalidCode):
            workshop.replace_code("b", parity_code(Field(5, (3, 1)), 3))

    def test_point_122_received_words_that_are_refused(self):
        workshop = Workshop()
        workshop.add_code("a", parity_code(THREE, 3))
        workshop.add_code("wide", WIDE)
        for received in ([], [0, 0], [0] * 4, [3, 0, 0], [0, 0, -1], [None, None, 3], [None] * 2):
            with self.assertRaises(InvalidWord):
                workshop.receive("a", received)
        self.assertEqual(workshop.received_words("a"), [])
        self.assertEqual((workshop.receive("a", [None] * 3), workshop.receive("wide", [0] * 13)), (0, 0))

    def test_points_3_and_122_lists_may_be_changed(self):
        workshop = Workshop()
        workshop.add_code("a", ODD)
        received = [1, None, 0]
        workshop.receive("a", received)
        received[0] = 0
        received.append(1)
        workshop.code_names().append("b")
        workshop.received_words("a")[0].append(1)
        workshop.received_words("a").append([1])
        distance, words = workshop.answers("a")[0]
        self.assertEqual((distance, words), nearest(ODD, [1, None, 0]))
        words[0].append(5)
        words.append([5])
        self.assertEqual(workshop.answers("a"), [nearest(ODD, [1, None, 0])])
        self.assertEqual((workshop.code_names(), workshop.received_words("a")), (["a"], [[1, None, 0]]))
        deeds = [("receive", "a", [0, 0, 1])]
        workshop.change_all(deeds)
        deeds[0][2][0] = 1
        deeds.append(("remove", "a"))
        self.assertEqual(workshop.received_words("a"), [[1, None, 0], [0, 0, 1]])


class UndoTest(unittest.TestCase):
    def test_point_123_either_end(self):
        workshop = Workshop()
        workshop.add_code("a", ODD)
        with self.assertRaises(NothingToRedo):
            workshop.redo()
        workshop.undo()
        self.assertEqual(workshop.code_names(), [])
        with self.assertRaises(NothingToUndo):
            workshop.undo()
        workshop.redo()
        self.assertEqual(workshop.code_names(), ["a"])
        with self.assertRaises(NothingToRedo):
            workshop.redo()
        workshop.undo()
        self.assertEqual(workshop.code_names(), [])

    def test_point_123_random_changes(self):
        source = random.Random(123)
        for _ in range(60):
            workshop = Workshop()
            states, at = [[]], 0
            for _ in range(60):
                names = workshop.code_names()
                what = source.randrange(8)
                if what == 0 and at > 0:
                    workshop.undo()
                    at -= 1
                elif what == 1 and at + 1 < len(states):
                    workshop.redo()
                    at += 1
                elif what == 2:
                    workshop.change_all([("all", [])])
                    for name in names:
                        workshop.answers(name)
                elif self.change(workshop, source, names):
                    states = states[:at + 1] + [state_of(workshop)]
                    at += 1
                self.assertEqual(state_of(workshop), states[at])
            now, before, behind = whole_state(workshop)
            self.assertEqual((now, before, behind), (states[at], states[:at][::-1], states[at + 1:]))

    def change(self, workshop, source, names):
        """Makes a change if it can be made, and tells whether it was."""
        what = source.randrange(4)
        name = source.choice("abcde")
        if what == 0 or not names:
            if name in names:
                with self.assertRaises(NameTaken):
                    workshop.add_code(name, ODD)
                return False
            workshop.add_code(name, source.choice((ODD, SAME)))
            return True
        if name not in names:
            with self.assertRaises(UnknownName):
                workshop.remove_code(name)
            return False
        if what == 1:
            workshop.replace_code(name, source.choice((ODD, SAME)))
        elif what == 2:
            workshop.remove_code(name)
        else:
            workshop.receive(name, [source.choice((0, 1, None)) for _ in range(3)])
        return True

    def test_point_123_a_change_after_an_undo(self):
        changes = [
            lambda workshop: workshop.add_code("c", ODD), lambda workshop: workshop.replace_code("a", SAME),
            lambda workshop: workshop.remove_code("b"), lambda workshop: workshop.receive("a", [0, 0, 0]),
            lambda workshop: workshop.replace_code("a", ODD), lambda workshop: workshop.change_all([("add", "c", ODD)]),
        ]
        for change in changes:
            workshop = filled()
            before = state_of(workshop)
            change(workshop)
            with self.assertRaises(NothingToRedo):
                workshop.redo()
            after = state_of(workshop)
            workshop.undo()
            self.assertEqual(state_of(workshop), before)
            workshop.redo()
            self.assertEqual(state_of(workshop), after)

    def test_points_4_and_123_what_does_not_change_anything(self):
        expected = whole_state(filled())
        self.assertEqual(len(expected[2]), 1)
        for at in range(len(list(failing_calls(filled())))):
            workshop = filled()
            call, error = list(failing_calls(workshop))[at]
            with self.assertRaises(error):
                call()
            self.assertEqual(whole_state(workshop), expected)
        for at in range(len(list(asking_calls(filled())))):
            workshop = filled()
            list(asking_calls(workshop))[at]()
            self.assertEqual(whole_state(workshop), expected)

    def test_point_123_a_replacement_by_the_same_code_is_a_change(self):
        workshop = Workshop()
        workshop.add_code("a", ODD)
        workshop.replace_code("a", ODD)
        workshop.undo()
        self.assertEqual(workshop.code_names(), ["a"])
        workshop.undo()
        self.assertEqual(workshop.code_names(), [])

    def test_point_123_many_changes(self):
        workshop = Workshop()
        workshop.add_code("a", ODD)
        for at in range(3000):
            self.assertEqual(workshop.receive("a", [at % 2, None, 1]), at)
        for _ in range(3000):
            workshop.undo()
        self.assertEqual(workshop.received_words("a"), [])
        for _ in range(3000):
            workshop.redo()
        self.assertEqual(workshop.received_words("a"), [[at % 2, None, 1] for at in range(3000)])


class AnswersTest(unittest.TestCase):
    def test_point_124_answers(self):
        workshop = Workshop()
        code = hamming_code(TWO, 3)
        workshop.add_code("a", code)
        self.assertEqual((workshop.answers("a"), workshop.computed), ([], 0))
        source = random.Random(124)
        received = [[source.choice((0, 1, None)) for _ in range(7)] for _ in range(20)]
        for word in received:
            workshop.receive("a", word)
        self.assertEqual(workshop.computed, 0)
        answers = workshop.answers("a")
        self.assertEqual(answers, [nearest(code, word) for word in received])
        self.assertIsInstance(answers[0], tuple)
        self.assertEqual(workshop.computed, len({tuple(word) for word in received}))
        self.assertEqual(workshop.answers("a"), answers)
        self.assertEqual(workshop.computed, len({tuple(word) for word in received}))

    def test_point_124_one_answer_for_each_pair(self):
        workshop = Workshop()
        workshop.add_code("a", ODD)
        workshop.add_code("b", LinearCode(Field(2), 3, [[1, 1, 0], [1, 0, 1], [0, 1, 1]]))
        workshop.add_code("c", SAME)
        for name in "abc":
            for word in ([1, 1, 1], [1, None, 1], [1, 1, 1]):
                workshop.receive(name, word)
        self.assertEqual(
            (workshop.answers("a"), workshop.computed),
            ([nearest(ODD, word) for word in workshop.received_words("a")], 2),
        )
        self.assertEqual((workshop.answers("b"), workshop.computed), (workshop.answers("a"), 2))
        self.assertEqual(
            (workshop.answers("c"), workshop.computed),
            ([nearest(SAME, word) for word in workshop.received_words("c")], 4),
        )

    def test_point_124_nothing_is_computed_twice(self):
        workshop = Workshop()
        with mock.patch("nearestword.workshop.nearest", side_effect=nearest) as computing:
            for name in "ab":
                workshop.add_code(name, parity_code(Field(2), 3))
                for word in ([1, 1, 1], [1, None, 1], [1, 1, 1]):
                    workshop.receive(name, word)
            self.assertEqual(computing.call_count, 0)
            for _ in range(3):
                workshop.answers("a")
                workshop.answers("b")
                workshop.undo()
                workshop.redo()
                self.assertEqual((computing.call_count, workshop.computed), (2, 2))

    def test_point_124_codes_that_do_not_count_as_the_same(self):
        codes = [
            parity_code(standard_field(8), 2), parity_code(Field(2, (1, 0, 1, 1)), 2),
            repetition_code(standard_field(8), 2),
            zero_code(standard_field(8), 2), whole_code(Field(5), 2), whole_code(Field(5, (3, 1)), 2),
            whole_code(Field(7), 2),
            zero_code(TWO, 2), zero_code(TWO, 3), zero_code(THREE, 2),
            LinearCode(standard_field(8), 2, [[1, 3]]), LinearCode(Field(2, (1, 0, 1, 1)), 2, [[1, 3]]),
        ]
        workshop = Workshop()
        marks = {}
        for at, code in enumerate(codes):
            workshop.add_code(str(at), code)
            word = [1, 0, None][:code.length]
            workshop.receive(str(at), word)
            self.assertEqual(workshop.answers(str(at)), [nearest(code, word)])
            marks[code.field.prime, code.field.modulus, code.length, str(code.rows)] = True
            self.assertEqual(workshop.computed, len(marks))
        self.assertEqual(len(marks), 11)

    def test_point_124_answers_are_kept(self):
        workshop = Workshop()
        workshop.add_code("a", ODD)
        workshop.receive("a", [1, 1, 1])
        workshop.answers("a")
        self.assertEqual(workshop.computed, 1)
        workshop.undo()
        self.assertEqual((workshop.answers("a"), workshop.computed), ([], 1))
        workshop.redo()
        self.assertEqual((workshop.answers("a"), workshop.computed), ([nearest(ODD, [1, 1, 1])], 1))
        workshop.replace_code("a", SAME)
        self.assertEqual((workshop.answers("a"), workshop.computed), ([(0, [[1, 1, 1]])], 2))
        workshop.replace_code("a", ODD)
        self.assertEqual((workshop.answers("a"), workshop.computed), ([nearest(ODD, [1, 1, 1])], 2))
        workshop.remove_code("a")
        self.assertEqual(workshop.computed, 2)
        workshop.add_code("z", parity_code(Field(2), 3))
        workshop.receive("z", [1, 1, 1])
        self.assertEqual((workshop.answers("z"), workshop.computed), ([nearest(ODD, [1, 1, 1])], 2))
        workshop.receive("z", [1, 1, None])
        self.assertEqual(workshop.computed, 2)
        workshop.answers("z")
        self.assertEqual(workshop.computed, 3)

    def test_point_124_large_codes(self):
        workshop = Workshop()
        workshop.add_code("wide", WIDE)
        self.assertEqual(workshop.answers("wide"), [])
        workshop.add_code("a", ODD)
        workshop.receive("a", [1, 1, 1])
        workshop.receive("wide", [0] * 13)
        workshop.receive("wide", [None] * 13)
        workshop.undo()
        before = whole_state(workshop)
        for _ in range(2):
            with self.assertRaises(TooLarge):
                workshop.answers("wide")
            self.assertEqual((whole_state(workshop), workshop.computed), (before, 0))
        workshop.answers("a")
        self.assertEqual(workshop.computed, 1)
        workshop.replace_code("wide", repetition_code(TWO, 13))
        self.assertEqual((workshop.answers("wide"), workshop.computed), ([(0, [[0] * 13])], 2))

    def test_point_124_two_workshops(self):
        first, second = Workshop(), Workshop()
        first.add_code("a", ODD)
        first.receive("a", [1, 1, 1])
        first.answers("a")
        self.assertEqual((second.code_names(), second.computed), ([], 0))


class TrialTest(unittest.TestCase):
    def test_point_125_a_trial_that_ends_well(self):
        workshop = filled()
        trial = workshop.trial()
        self.assertIsInstance(trial, Trial)
        with trial as inside:
            self.assertIs(inside, workshop)
            workshop.add_code("c", ODD)
            workshop.receive("c", [0, 0, 1])
        self.assertEqual(workshop.code_names(), ["a", "b", "c"])
        with self.assertRaises(NothingToRedo):
            workshop.redo()
        workshop.undo()
        self.assertEqual(workshop.received_words("c"), [])
        workshop.undo()
        self.assertEqual(workshop.code_names(), ["a", "b"])

    def test_point_125_a_trial_that_is_left_by_an_error(self):
        for error in (KeyError, InvalidWord, KeyboardInterrupt):
            for change in (
                lambda workshop: workshop.add_code("c", ODD), lambda workshop: workshop.undo(),
                lambda workshop: workshop.redo(),
                lambda workshop: workshop.remove_code("a"), lambda workshop: workshop.replace_code("a", SAME),
                lambda workshop: workshop.receive("b", [1, 1, 1]), lambda workshop: None,
                lambda workshop: (workshop.undo(), workshop.undo(), workshop.add_code("z", SAME)),
            ):
                workshop = filled()
                before = whole_state(workshop)
                raised = error("left")
                with self.assertRaises(error) as caught:
                    with workshop.trial():
                        change(workshop)
                        raise raised
                self.assertIs(caught.exception, raised)
                self.assertEqual(whole_state(workshop), before)

    def test_point_125_an_error_of_the_workshop(self):
        workshop = filled()
        before = whole_state(workshop)
        with self.assertRaises(NameTaken):
            with workshop.trial():
                workshop.receive("b", [1, 1, 1])
                workshop.add_code("a", SAME)
        self.assertEqual(whole_state(workshop), before)
        with workshop.trial():
            workshop.receive("b", [1, 1, 1])
            with self.assertRaises(NameTaken):
                workshop.add_code("a", SAME)
        self.assertEqual(workshop.received_words("b"), [[1, 1, 1]])

    def test_point_125_the_block_is_entered_later(self):
        workshop = filled()
        trial = workshop.trial()
        workshop.add_code("c", ODD)
        before = whole_state(workshop)
        with self.assertRaises(KeyError):
            with trial:
                workshop.remove_code("c")
                raise KeyError
        self.assertEqual(whole_state(workshop), before)

    def test_point_125_other_ways_out(self):
        workshop = filled()

        def leave():
            for _ in range(3):
                with workshop.trial():
                    workshop.receive("a", [0, 0, 0])
                    return 5

        self.assertEqual(leave(), 5)
        self.assertEqual(workshop.received_words("a"), [[1, 1, 1], [0, 0, 0]])

    def test_point_125_nested_trials(self):
        workshop = filled()
        with workshop.trial():
            workshop.add_code("c", ODD)
            inside = whole_state(workshop)
            with self.assertRaises(KeyError):
                with workshop.trial():
                    workshop.remove_code("c")
                    with workshop.trial():
                        workshop.add_code("d", SAME)
                    raise KeyError
            self.assertEqual(whole_state(workshop), inside)
            with workshop.trial():
                workshop.add_code("e", SAME)
        self.assertEqual(workshop.code_names(), ["a", "b", "c", "e"])
        before = whole_state(workshop)
        with self.assertRaises(KeyError):
            with workshop.trial():
                workshop.remove_code("a")
                with workshop.trial():
                    workshop.remove_code("b")
                workshop.undo()
                raise KeyError
        self.assertEqual(whole_state(workshop), before)

    def test_point_125_computed_answers_stay(self):
        workshop = filled()
        with self.assertRaises(KeyError):
            with workshop.trial():
                workshop.receive("a", [1, None, 1])
                workshop.answers("a")
                raise KeyError
        self.assertEqual(workshop.computed, 2)
        with workshop.trial():
            workshop.receive("a", [1, None, 1])
        self.assertEqual((len(workshop.answers("a")), workshop.computed), (2, 2))

    def test_point_125_change_all(self):
        workshop = Workshop()
        deeds = [
            ("add", "a", ODD), ("receive", "a", [1, 1, 1]), ("add", "b", SAME),
            ("all", [("replace", "a", SAME), ("all", []), ("all", [("receive", "b", [None] * 3)])]), ("remove", "a"),
        ]
        self.assertIsNone(workshop.change_all(deeds))
        self.assertEqual(state_of(workshop), [("b", SAME, [[None] * 3])])
        _, before, behind = whole_state(workshop)
        self.assertEqual(before, [
            [("a", SAME, [[1, 1, 1]]), ("b", SAME, [[None] * 3])], [("a", SAME, [[1, 1, 1]]), ("b", SAME, [])],
            [("a", ODD, [[1, 1, 1]]), ("b", SAME, [])], [("a", ODD, [[1, 1, 1]])], [("a", ODD, [])], [],
        ])
        self.assertEqual(behind, [])

    def test_point_125_change_all_whose_last_change_fails(self):
        good = [("add", "c", ODD), ("receive", "a", [0, 0, 0]), ("replace", "a", SAME), ("remove", "b")]
        for bad, error in (
            (("add", "a", ODD), NameTaken), (("replace", "x", ODD), UnknownName),
            (("replace", "a", parity_code(TWO, 2)), InvalidCode),
            (("remove", "b"), UnknownName), (("receive", "x", [0]), UnknownName),
            (("receive", "a", [0, 0]), InvalidWord),
        ):
            lists = [
                good + [bad], good + [("all", [bad])], [("all", good), bad],
                [("all", good), ("all", [("all", []), bad])],
                [("all", good + [bad])], [("all", [("all", good), bad])], good + [bad, ("add", "y", ODD)],
            ]
            for deeds in lists:
                workshop = filled()
                before = whole_state(workshop)
                with self.assertRaises(error):
                    workshop.change_all(deeds)
                self.assertEqual(whole_state(workshop), before)

    def test_point_125_deep_lists(self):
        deeds = [("add", "c", ODD)]
        for _ in range(20):
            deeds = [("all", deeds)]
        workshop = filled()
        workshop.change_all(deeds)
        self.assertEqual(workshop.code_names(), ["a", "b", "c"])
        before = whole_state(workshop)
        with self.assertRaises(NameTaken):
            workshop.change_all([("remove", "b")] + deeds)
        self.assertEqual(whole_state(workshop), before)
        workshop.undo()
        self.assertEqual(workshop.code_names(), ["a", "b"])
