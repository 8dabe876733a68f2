"""Points 119 to 121: written forms."""

import random
import unittest

from nearestword.errors import InvalidNotation
from nearestword.families import hamming_code, whole_code, zero_code
from nearestword.fields import Field, standard_field
from nearestword.linear import LinearCode
from nearestword.notation import format_code, format_field, format_word, parse_code, parse_field, parse_word
from tests.support import LARGE_FIELDS, SMALL_FIELDS, random_rows

THREE = Field(3)
GOOD = "field 3 0 1\nlength 4\nrow 1 0 2 1\nrow 0 1 1 1"


class NotationTest(unittest.TestCase):
    def wrong(self, parse, text, line):
        with self.subTest(text):
            with self.assertRaises(InvalidNotation) as caught:
                parse(text)
            self.assertEqual(caught.exception.line, line)

    def test_point_119_fields(self):
        self.assertEqual(format_field(Field(2)), "field 2 0 1")
        self.assertEqual(format_field(Field(5, (3, 1))), "field 5 3 1")
        self.assertEqual(format_field(Field(31)), "field 31 0 1")
        self.assertEqual(format_field(standard_field(25)), "field 5 2 0 1")
        self.assertEqual(format_field(Field(2, (1, 0, 1, 1, 1, 0, 0, 0, 1))), "field 2 1 0 1 1 1 0 0 0 1")

    def test_point_119_codes(self):
        code = LinearCode(THREE, 4, [[2, 0, 1, 2], [1, 1, 0, 2], [0, 0, 0, 0]])
        self.assertEqual(format_code(code), GOOD)
        self.assertEqual(format_code(zero_code(Field(2, (1, 1, 1)), 255)), "field 2 1 1 1\nlength 255")
        self.assertEqual(
            format_code(LinearCode(standard_field(256), 1, [[255]])),
            "field 2 1 1 0 1 1 0 0 0 1\nlength 1\nrow 1",
        )
        self.assertEqual(format_code(LinearCode(Field(31), 2, [[1, 30]])), "field 31 0 1\nlength 2\nrow 1 30")

    def test_point_119_words(self):
        for word, text in (
            ([0], "0"), ([None], "?"), ([1, None, 255, 0], "1 ? 255 0"), ([], ""), ([None] * 3, "? ? ?"),
            ([10], "10"),
        ):
            self.assertEqual(format_word(word), text)

    def test_point_121_fields(self):
        for field in SMALL_FIELDS + LARGE_FIELDS:
            again = parse_field(format_field(field))
            self.assertTrue(again.same_as(field))
            self.assertIsInstance(again, Field)

    def test_point_121_codes(self):
        for at, field in enumerate(SMALL_FIELDS + LARGE_FIELDS):
            for length, many in ((1, 0), (1, 1), (5, 0), (5, 2), (6, 9), (40, 7)):
                code = LinearCode(field, length, random_rows(at, field, many, length))
                again = parse_code(format_code(code))
                self.assertTrue(again.same_as(code))
                self.assertEqual((again.rows, again.length), (code.rows, code.length))
                self.assertEqual(format_code(again), format_code(code))
        for code in (whole_code(Field(2), 255), hamming_code(standard_field(4), 4), zero_code(Field(2), 255)):
            self.assertTrue(parse_code(format_code(code)).same_as(code))

    def test_point_121_words(self):
        source = random.Random(121)
        for field in SMALL_FIELDS + LARGE_FIELDS:
            for length in (1, 2, 7, 254, 255):
                word = [source.choice([None] + field.all_elements()) for _ in range(length)]
                self.assertEqual(parse_word(field, format_word(word)), word)
            self.assertEqual(parse_word(field, "?"), [None])
        self.assertEqual(parse_word(standard_field(256), "255 99 ? 100 0"), [255, 99, None, 100, 0])

    def test_point_120_rows_in_any_form(self):
        text = "field 3 0 1\nlength 2"
        for rows, expected in (
            ([], []), (["0 0"], []), (["2 1"], [[1, 2]]), (["1 2", "2 1", "0 0"], [[1, 2]]),
            (["0 2", "1 1", "2 2"], [[1, 0], [0, 1]]),
        ):
            code = parse_code("\n".join([text] + ["row " + row for row in rows]))
            self.assertEqual((code.rows, code.length), (expected, 2))
        many = parse_code(text + "\nrow 1 2" * 1000)
        self.assertEqual(many.rows, [[1, 2]])

    def test_point_120_wrong_field_lines(self):
        lines = [
            "", " ", "field", "field ", "field 3", "field 3 ", " field 3 0 1", "field 3 0 1 ", "field  3 0 1",
            "field 3  0 1", "field 3 0  1",
            "fields 3 0 1", "Field 3 0 1", "3 0 1", "field3 0 1", "length 3", "row 3 0 1", "field 3,0,1",
            "field -3 0 1", "field +3 0 1",
            "field 03 0 1", "field 3 00 1", "field 3 0 01", "field 0003 0 1", "field 1000 0 1", "field 3 0 1000",
            "field 3 1000 1",
            "field 3 ? 1", "field ? 0 1", "field 3 x 1", "field 3 0 1.0", "field 3 0 1e0", "field 3 0 0x1",
            "field 3 0 1_0",
            # These have the right form, but they name no field.
            "field 4 0 1", "field 1 0 1", "field 0 0 1", "field 37 0 1", "field 999 0 1", "field 3 0 2",
            "field 3 3 1", "field 3 999 1",
            "field 3 1", "field 3 0", "field 3 0 0", "field 2 1 0 1", "field 2 0 0 1", "field 3 2 0 1",
            "field 17 3 0 1", "field 31 0 0 1",
            "field 2 1 1 0 0 0 0 0 0 0 1", "field 2 1 1 1 1 1 1 1 1 1", "field 2" + " 1" * 400,
            "field 3 0 1" + "0" * 5000, "field " + "3" * 5000,
        ]
        for line in lines:
            self.wrong(parse_field, line, 1)
            self.wrong(parse_field, line + "\n", 1)
            self.wrong(parse_field, line + "\nfield 3 0 1", 1)
            self.wrong(parse_code, line, 1)
            self.wrong(parse_code, line + "\nlength 4\nrow 1 0 2 1", 1)
            self.wrong(parse_code, line + "\nlength 0\nrow", 1)
        for line in (
            "field 3 0 1", "field 2 1 1 1", "field 31 30 1", "field 17 0 1", "field 2 1 1 0 1 1 0 0 0 1",
            "field 3 1 0 1",
        ):
            self.assertEqual(format_field(parse_field(line)), line)

    def test_point_120_a_second_line_of_a_field(self):
        for rest in ("", " ", "field 3 0 1", "length 4", "x", "\n", "\n\n", "row 1"):
            self.wrong(parse_field, "field 3 0 1\n" + rest, 2)

    def test_point_120_wrong_length_lines(self):
        lines = [
            "", " ", "length", "length ", " length 4", "length 4 ", "length  4", "length 4 4", "Length 4",
            "lengths 4", "length4", "4",
            "row 1 0 2 1", "field 3 0 1", "length -4", "length +4", "length 04", "length 004", "length 00",
            "length 0004", "length ?",
            "length 0", "length 256", "length 999", "length 1000", "length x", "length 4.0", "length " + "4" * 5000,
        ]
        for line in lines:
            self.wrong(parse_code, "field 3 0 1\n" + line, 2)
            self.wrong(parse_code, "field 3 0 1\n" + line + "\nrow 1 0 2 1", 2)
            self.wrong(parse_code, "field 3 0 1\n" + line + "\n", 2)
        for length in (1, 9, 99, 100, 255):
            self.assertEqual(parse_code(f"field 3 0 1\nlength {length}").length, length)

    def test_point_120_wrong_rows(self):
        lines = [
            "", " ", "row", "row ", " row 1 0 2 1", "row 1 0 2 1 ", "row  1 0 2 1", "row 1 0  2 1", "Row 1 0 2 1",
            "rows 1 0 2 1", "1 0 2 1",
            "row 1 0 2", "row 1 0 2 1 0", "row 1 0 2 3", "row 9 0 2 1", "row 1 0 2 999", "row 1 0 2 1000",
            "row 1 0 2 -1", "row 1 0 2 +1",
            "row 1 0 2 01", "row 1 00 2 1", "row 1 0 2 ?", "row ? 0 2 1", "row 1 0 2 x", "row 1,0,2,1",
            "field 3 0 1", "length 4", "end", "row 1 0 2 1" + "0" * 5000,
        ]
        for line in lines:
            for after in ("", "\n", "\nrow 1 0 2 1", "\n" + line, "\nx"):
                self.wrong(parse_code, "field 3 0 1\nlength 4\n" + line + after, 3)
                self.wrong(parse_code, "field 3 0 1\nlength 4\nrow 0 1 2 1\n" + line + after, 4)
        self.assertEqual(parse_code(GOOD + "\nrow 0 0 0 0").rows, [[1, 0, 2, 1], [0, 1, 1, 1]])

    def test_point_120_texts_that_end_too_early(self):
        self.wrong(parse_code, "field 3 0 1", 2)
        self.wrong(parse_code, "field 3 0 1\n", 2)
        self.wrong(parse_code, "", 1)
        self.wrong(parse_code, "\n", 1)
        self.wrong(parse_field, "", 1)
        self.wrong(parse_code, GOOD + "\n", 5)
        self.wrong(parse_code, GOOD + "\n\n", 5)
        self.wrong(parse_code, GOOD + "\nrow 1 0 2 1 \n\n", 5)
        self.wrong(parse_code, "field 3 0 1\nlength 1" + "\nrow 1" * 1000 + "\n", 1003)

    def test_point_120_long_rows(self):
        for length in (1, 255):
            row = "row" + " 2" * length
            self.assertEqual(parse_code(f"field 3 0 1\nlength {length}\n{row}").rows, [[1] * length])
            self.wrong(parse_code, f"field 3 0 1\nlength {length}\n{row} 2", 3)
            self.wrong(parse_code, f"field 3 0 1\nlength {length}\n{row[:-2]}", 3)

    def test_point_120_words(self):
        lines = [
            "", " ", "  ", " 1", "1 ", "1  2", "? ", " ?", "?  ?", "??", "-1", "+1", "01", "00", "1 02", "1000",
            "0001", "3", "1 3", "1 2 999",
            "x", "1,2", "None", "1 2 x", "1\n2", "1 2\n", "\n", "\n1", "1\n\n", "1 \n2", "row 1 2", "1.0", "0x1", "1_0",
            "1" * 5000,
        ]
        for text in lines:
            self.wrong(lambda told: parse_word(THREE, told), text, 1)
        for length in (1, 254, 255):
            self.assertEqual(parse_word(THREE, " ".join(["?"] * length)), [None] * length)
            self.assertEqual(parse_word(THREE, " ".join(["2"] * length)), [2] * length)
        for length in (256, 257, 1000):
            self.wrong(lambda told: parse_word(THREE, told), " ".join(["?"] * length), 1)
            self.wrong(lambda told: parse_word(THREE, told), " ".join(["0"] * length), 1)
        self.assertEqual(parse_word(Field(31), "30"), [30])
        self.wrong(lambda told: parse_word(Field(31), told), "31", 1)
        self.wrong(lambda told: parse_word(standard_field(256), told), "256", 1)

    def test_points_119_and_3_lists_may_be_changed(self):
        word = [1, None]
        text = format_word(word)
        word.append(2)
        parsed = parse_word(THREE, text)
        parsed.append(5)
        self.assertEqual(parse_word(THREE, text), [1, None])
