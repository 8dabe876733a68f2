"""Point 126: reports."""

import unittest

from nearestword.errors import TooLarge
from nearestword.families import hamming_code, parity_code, repetition_code, simplex_code, whole_code, zero_code
from nearestword.fields import Field, standard_field
from nearestword.linear import LinearCode
from nearestword.report import leader_table, parameters, weight_table
from tests.support import SMALL_FIELDS, every_word, random_rows, slow_dot, weight

TWO = Field(2)


def some_codes():
    for at, field in enumerate(SMALL_FIELDS):
        for length in (1, 2, 3, 4):
            for many in (0, 1, 2, 4):
                if field.order ** length <= 800:
                    yield LinearCode(field, length, random_rows(at + many, field, many, length))


class ReportTest(unittest.TestCase):
    def test_point_126_parameters(self):
        for code, line in (
            (repetition_code(TWO, 12), "[12, 1, 12] over 2 elements"),
            (zero_code(Field(5), 3), "[3, 0, -] over 5 elements"),
            (hamming_code(standard_field(4), 2), "[5, 3, 3] over 4 elements"),
            (whole_code(standard_field(256), 1), "[1, 1, 1] over 256 elements"),
            (repetition_code(TWO, 255), "[255, 1, 255] over 2 elements"),
        ):
            self.assertEqual(parameters(code), line)
        for code in some_codes():
            words = code.words()[1:]
            least = min(map(weight, words)) if words else "-"
            self.assertEqual(
                parameters(code),
                f"[{code.length}, {code.dimension}, {least}] over {code.field.order} elements",
            )

    def test_point_126_weight_tables(self):
        self.assertEqual(weight_table(repetition_code(TWO, 12)), " 0 1\n12 1")
        self.assertEqual(weight_table(zero_code(TWO, 200)), "0 1")
        self.assertEqual(weight_table(hamming_code(TWO, 3)), "0 1\n3 7\n4 7\n7 1")
        self.assertEqual(weight_table(repetition_code(standard_field(4), 3)), "0 1\n3 3")
        self.assertEqual(
            weight_table(whole_code(TWO, 10)).split("\n")[:5],
            [" 0   1", " 1  10", " 2  45", " 3 120", " 4 210"],
        )
        self.assertEqual(weight_table(repetition_code(Field(31), 100)), "  0  1\n100 30")
        self.assertEqual(weight_table(whole_code(standard_field(256), 1)), "0   1\n1 255")
        self.assertEqual(weight_table(simplex_code(TWO, 7)), " 0   1\n64 127")

    def test_point_126_weight_tables_of_many_codes(self):
        for code in some_codes():
            counts = {}
            for word in code.words():
                counts[weight(word)] = counts.get(weight(word), 0) + 1
            first = max(len(str(at)) for at in counts)
            second = max(len(str(many)) for many in counts.values())
            expected = "\n".join(f"{at:>{first}} {counts[at]:>{second}}" for at in sorted(counts))
            self.assertEqual(weight_table(code), expected)

    def test_point_126_leader_tables(self):
        self.assertEqual(leader_table(repetition_code(TWO, 2)), "0: 0 0\n1: 0 1, 1 0")
        self.assertEqual(leader_table(whole_code(TWO, 2)), "-: 0 0")
        self.assertEqual(leader_table(zero_code(Field(3), 1)), "0: 0\n1: 1\n2: 2")
        self.assertEqual(leader_table(parity_code(TWO, 3)), "0: 0 0 0\n1: 0 0 1, 0 1 0, 1 0 0")
        self.assertEqual(leader_table(repetition_code(TWO, 3)), "0 0: 0 0 0\n0 1: 0 0 1\n1 0: 0 1 0\n1 1: 1 0 0")
        self.assertEqual(leader_table(zero_code(Field(11), 1)).split("\n")[9:], ["9: 9", "10: 10"])

    def test_point_126_leader_tables_of_many_codes(self):
        for code in some_codes():
            leaders = {}
            for word in every_word(code.field, code.length):
                syndrome = [slow_dot(code.field, check, word) for check in code.checks]
                leaders.setdefault(tuple(syndrome), []).append(word)
            lines = []
            for syndrome in sorted(leaders):
                least = min(map(weight, leaders[syndrome]))
                words = [" ".join(map(str, word)) for word in leaders[syndrome] if weight(word) == least]
                lines.append((" ".join(map(str, syndrome)) or "-") + ": " + ", ".join(words))
            self.assertEqual(leader_table(code), "\n".join(lines))

    def test_point_126_too_large(self):
        for code in (whole_code(TWO, 13), whole_code(standard_field(256), 2), whole_code(TWO, 255)):
            for call in (parameters, weight_table, leader_table):
                with self.assertRaises(TooLarge):
                    call(code)
        self.assertEqual(parameters(whole_code(TWO, 12)), "[12, 12, 1] over 2 elements")
        self.assertEqual(len(weight_table(whole_code(TWO, 12)).split("\n")), 13)
        self.assertEqual(leader_table(whole_code(TWO, 12)), "-: " + " ".join(["0"] * 12))
        self.assertEqual(len(leader_table(zero_code(TWO, 12)).split("\n")), 4096)
        for code in (
            repetition_code(TWO, 13), zero_code(TWO, 13), zero_code(standard_field(256), 2), zero_code(TWO, 255),
        ):
            with self.assertRaises(TooLarge):
                leader_table(code)
            parameters(code)
            weight_table(code)
