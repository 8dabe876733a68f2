"""Points 4 and 5: the error classes."""

import unittest

from nearestword import errors

PLAIN = (
    "InvalidField ZeroElement ZeroPolynomial InvalidPoints InvalidMatrix SingularMatrix InvalidWord InvalidCode "
    "NotInCode TooLarge TooManyErrors Undetermined InvalidEncoder NothingToUndo NothingToRedo"
).split()
OTHERS = "Ambiguous Catastrophic InvalidNotation UnknownName NameTaken".split()


class ErrorsTest(unittest.TestCase):
    def test_point_5_code_error_is_a_value_error(self):
        self.assertEqual(errors.CodeError.__bases__, (ValueError,))

    def test_point_5_all_others_stand_directly_under_it(self):
        for name in PLAIN + OTHERS:
            with self.subTest(name):
                self.assertEqual(getattr(errors, name).__bases__, (errors.CodeError,))

    def test_point_5_they_are_defined_in_the_file(self):
        for name in ["CodeError"] + PLAIN + OTHERS:
            self.assertEqual(getattr(errors, name).__module__, "nearestword.errors")

    def test_point_5_plain_errors_take_one_message(self):
        for name in PLAIN + ["CodeError"]:
            error = getattr(errors, name)("a message")
            self.assertEqual(str(error), "a message")
            self.assertEqual(vars(error), {})

    def test_point_5_attributes(self):
        self.assertEqual(vars(errors.Ambiguous([[1, 0], [0, 1]])), {"found": [[1, 0], [0, 1]]})
        self.assertEqual(vars(errors.Ambiguous([])), {"found": []})
        self.assertEqual(vars(errors.Catastrophic([1, 3])), {"states": [1, 3]})
        self.assertEqual(vars(errors.InvalidNotation(7)), {"line": 7})
        self.assertEqual(vars(errors.UnknownName("a b")), {"name": "a b"})
        self.assertEqual(vars(errors.NameTaken("")), {"name": ""})

    def test_point_5_ambiguous_copies_the_list_and_each_word(self):
        words = [[1, 0], [0, 1]]
        error = errors.Ambiguous(words)
        words[0][0] = 9
        words.append([5])
        self.assertEqual(error.found, [[1, 0], [0, 1]])
        error.found[1].append(4)
        self.assertEqual(words, [[9, 0], [0, 1], [5]])

    def test_point_5_catastrophic_copies_the_list(self):
        states = [1, 2]
        error = errors.Catastrophic(states)
        states.append(3)
        self.assertEqual(error.states, [1, 2])

    def test_point_5_errors_can_be_caught_by_each_of_their_classes(self):
        for kind in (errors.Ambiguous, errors.CodeError, ValueError):
            with self.assertRaises(kind):
                raise errors.Ambiguous([[0]])
        with self.assertRaises(errors.NameTaken):
            try:
                raise errors.NameTaken("x")
            except errors.UnknownName:
                self.fail("the classes are not under each other")
