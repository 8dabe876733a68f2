"""The examples that the document's interface gives for each module."""

import pathlib
import unittest

ROOT = pathlib.Path(__file__).resolve().parent.parent
DOCUMENT = ROOT.parent / "shared" / "DOC.md"

EXAMPLES = {
    "fields": """
>>> from nearestword.fields import Field
>>> field = Field(2, (1, 1, 1))
>>> [field.plus(2, 3), field.times(2, 2), field.times(2, 3), field.inverse(2)]
[1, 3, 1, 3]

>>> from nearestword.fields import Field
>>> Field(2, (1, 0, 1))
raises InvalidField

>>> from nearestword.fields import standard_field
>>> standard_field(25).modulus
(2, 0, 1)
""",
    "polynomials": """
>>> from nearestword.fields import Field
>>> from nearestword.polynomials import poly_divide
>>> poly_divide(Field(3), [1, 0, 0, 1], [1, 2])
([2, 2, 2], [2])

>>> from nearestword.fields import Field
>>> from nearestword.polynomials import interpolate
>>> interpolate(Field(5), [0, 1, 2], [1, 3, 0])
[1, 2]
""",
    "matrices": """
>>> from nearestword.fields import Field
>>> from nearestword.matrices import reduce_rows, kernel
>>> reduce_rows(Field(3), [[1, 2, 0], [2, 1, 1]])
([[1, 2, 0], [0, 0, 1]], [0, 2])
>>> kernel(Field(3), [[1, 2, 0], [2, 1, 1]], 3)
[[1, 1, 0]]
""",
    "words": """
>>> from nearestword.words import errors_beside
>>> errors_beside([1, 0, 2, 2], [1, None, 0, 1])
2
""",
    "linear": """
>>> from nearestword.fields import standard_field
>>> from nearestword.linear import LinearCode
>>> code = LinearCode(standard_field(2), 4, [[1, 1, 0, 1], [0, 1, 1, 1], [1, 0, 1, 0]])
>>> (code.rows, code.pivots, code.checks)
([[1, 0, 1, 0], [0, 1, 1, 1]], [0, 1], [[1, 1, 1, 0], [0, 1, 0, 1]])

>>> from nearestword.fields import standard_field
>>> from nearestword.linear import LinearCode
>>> code = LinearCode(standard_field(2), 4, [[1, 1, 0, 1], [0, 1, 1, 1], [1, 0, 1, 0]])
>>> code.words()
[[0, 0, 0, 0], [0, 1, 1, 1], [1, 0, 1, 0], [1, 1, 0, 1]]
""",
    "changes": """
>>> from nearestword.families import parity_code
>>> from nearestword.fields import standard_field
>>> from nearestword.changes import punctured, shortened
>>> code = parity_code(standard_field(3), 3)
>>> (code.rows, shortened(code, [1]).rows, punctured(code, [1]).rows)
([[1, 0, 2], [0, 1, 2]], [[1, 2]], [[1, 0], [0, 1]])

>>> from nearestword.fields import standard_field
>>> from nearestword.changes import doubled
>>> from nearestword.linear import LinearCode
>>> first = LinearCode(standard_field(3), 2, [[1, 2]])
>>> doubled(first, LinearCode(standard_field(3), 2, [[0, 1]])).rows
[[1, 2, 1, 0], [0, 0, 0, 1]]
""",
    "distances": """
>>> from nearestword.fields import Field
>>> from nearestword.linear import LinearCode
>>> from nearestword.distances import distance_certificate, minimum_distance
>>> code = LinearCode(Field(5), 4, [[1, 0, 2, 4], [0, 1, 3, 3]])
>>> (minimum_distance(code), distance_certificate(code))
(3, ([0, 1, 3, 3], [[0, 1], [2, 3]], 1))
""",
    "enumerators": """
>>> from nearestword.enumerators import dual_enumerator, separable_enumerator
>>> (dual_enumerator(3, [1, 0, 2, 0]), separable_enumerator(5, 4, 2))
([1, 2, 2, 4], [1, 0, 0, 16, 8])
""",
    "bounds": """
>>> from nearestword.bounds import greatest_distance, varshamov_code
>>> from nearestword.fields import Field
>>> (greatest_distance(3, 6, 3), varshamov_code(Field(3), 4, 2, 2).rows)
(3, [[1, 0, 0, 2], [0, 1, 0, 2]])
""",
    "cosets": """
>>> from nearestword.cosets import deep_holes, leaders
>>> from nearestword.fields import Field
>>> from nearestword.linear import LinearCode
>>> code = LinearCode(Field(3), 2, [[1, 2]])
>>> leaders(code)
[((0,), [[0, 0]]), ((1,), [[0, 1], [1, 0]]), ((2,), [[0, 2], [2, 0]])]
>>> deep_holes(code)
[[0, 1], [0, 2], [1, 0], [1, 1], [2, 0], [2, 2]]
""",
    "checksums": """
>>> from nearestword.checksums import Checksum
>>> checksum = Checksum([1, 1, 0, 0, 0, 1])
>>> (checksum.remainder([1, 0, 0]), checksum.sealed([1, 1]), checksum.period())
([0, 1, 1, 0, 0], [1, 1, 0, 0, 1, 0, 1], 21)
""",
    "cyclic": """
>>> from nearestword.fields import Field
>>> from nearestword.cyclic import CyclicCode
>>> CyclicCode(Field(5), 4, [3, 1]).word_for([1, 0, 2])
[2, 1, 0, 2]

>>> from nearestword.fields import Field
>>> from nearestword.cyclic import cyclic_generators
>>> cyclic_generators(Field(5), 2)
[[1], [1, 1], [4, 1], [4, 0, 1]]
""",
    "keyequation": """
>>> from nearestword.fields import Field
>>> from nearestword.keyequation import key_equation
>>> key_equation(Field(5), [0, 0, 0, 1], [1, 1], 1)
([1], [1, 4, 1])

>>> from nearestword.fields import Field
>>> from nearestword.keyequation import shortest_register
>>> shortest_register(Field(5), [1, 3, 2, 2, 1, 4])
([1, 3, 4], 2)
""",
    "evaluation": """
>>> from nearestword.fields import Field
>>> from nearestword.evaluation import EvaluationCode
>>> code = EvaluationCode(Field(5), [0, 1, 2, 3, 4], 2)
>>> code.word_for([1, 2])
[1, 3, 0, 2, 4]
>>> code.corrected([1, 3, 0, 2, 0])
[1, 3, 0, 2, 4]
>>> code.error_locator([1, 3, 0, 2, 0])
[1, 1]
""",
    "bch": """
>>> from nearestword.fields import Field
>>> from nearestword.bch import minimal_polynomial
>>> minimal_polynomial(Field(2, (1, 1, 1)), 2)
[1, 1, 1]

>>> from nearestword.fields import standard_field
>>> from nearestword.bch import BchCode
>>> code = BchCode(standard_field(9), 8, 4)
>>> code.generator
[2, 1, 0, 1, 1]
>>> code.corrected([0, 0, 0, 0, 0, 2, 0, 0])
[0, 0, 0, 0, 0, 0, 0, 0]
""",
    "convolution": """
>>> from nearestword.convolution import Encoder
>>> encoder = Encoder([[1, 0, 1], [1, 1, 0], [0, 0, 1]])
>>> encoder.advance(2, 1)
(1, [0, 1, 1])
>>> encoder.word_for([1])
[1, 1, 0, 0, 1, 0, 1, 0, 1]
>>> encoder.states_for([1])
[0, 1, 2, 0]
""",
    "trellis": """
>>> from nearestword.convolution import Encoder
>>> from nearestword.trellis import best_path
>>> best_path(Encoder([[1, 0, 1], [1, 1, 0], [0, 0, 1]]), [1, 1, 0, 0, 0, 0, 1, 0, None])
(1, [1], 1)
""",
    "freedistance": """
>>> from nearestword.convolution import Encoder
>>> from nearestword.freedistance import free_distance, lightest_detour, silent_round, spectrum
>>> encoder = Encoder([[1, 0, 1], [1, 1, 0], [0, 0, 1]])
>>> [free_distance(encoder), lightest_detour(encoder), spectrum(encoder, 9)]
[5, [1, 0, 0], [0, 0, 0, 0, 0, 1, 0, 0, 2, 1]]
>>> silent_round(Encoder([[1, 1], [0, 0]]))
[1]
""",
    "interleaving": """
>>> from nearestword.interleaving import interleave, spread
>>> interleave([[1, 2, 3], [4, None, 6]])
[1, 4, 2, None, 3, 6]
>>> spread([1, 4, 2, None, 3, 6], 3)
[[1, None], [4, 3], [2, 6]]
""",
    "products": """
>>> from nearestword.families import parity_code
>>> from nearestword.fields import standard_field
>>> from nearestword.products import ProductCode
>>> product = ProductCode(parity_code(standard_field(2), 3), parity_code(standard_field(2), 3))
>>> product.matrix_for([[1, 0], [1, 1]])
[[1, 0, 1], [1, 1, 0], [0, 1, 1]]

>>> from nearestword.families import parity_code
>>> from nearestword.fields import standard_field
>>> from nearestword.products import ProductCode
>>> product = ProductCode(parity_code(standard_field(2), 3), parity_code(standard_field(2), 3))
>>> product.corrected([[1, 0, 1], [1, 0, 0], [0, 1, 1]])
[[1, 0, 1], [1, 1, 0], [0, 1, 1]]
""",
    "concatenation": """
>>> from nearestword.fields import Field
>>> from nearestword.linear import LinearCode
>>> from nearestword.evaluation import EvaluationCode
>>> from nearestword.concatenation import ConcatenatedCode
>>> outer = EvaluationCode(Field(2, (1, 1, 1)), [0, 1, 2], 1)
>>> code = ConcatenatedCode(outer, LinearCode(Field(2), 3, [[1, 0, 1], [0, 1, 1]]))
>>> [code.distance, code.word_for([2])]
[6, [0, 1, 1, 0, 1, 1, 0, 1, 1]]
>>> code.judged([0, 1, 1, 0, None, 1, 1, 1, 1])
[(2, 0), (2, 1), (None, 2)]
>>> code.corrected([0, 1, 1, 0, None, 1, 1, 1, 1])
[0, 1, 1, 0, 1, 1, 0, 1, 1]
""",
}


def steps_of(text):
    """Pairs of a statement and the line that tells its result, None if no line does."""
    steps = []
    for line in text.splitlines():
        if line.startswith(">>> "):
            steps.append([line[4:], None])
        elif line and steps:
            steps[-1][1] = line
    return steps


def examples_of_document(text):
    """The examples of each module whose heading stands in the document."""
    found = {}
    name, inside = None, False
    for line in text.splitlines():
        if line.startswith("## nearestword/"):
            name = line[len("## nearestword/"):-len(".py")]
        elif line.startswith("## "):
            name = None
        elif line.startswith("```"):
            inside = not inside
            if inside and name:
                found.setdefault(name, "")
                found[name] += "\n"
        elif inside and name:
            found[name] += line + "\n"
    return {name: text for name, text in found.items() if ">>> " in text}


class ExamplesTest(unittest.TestCase):
    def run_steps(self, text):
        names = {}
        for statement, result in steps_of(text):
            if result is None:
                exec(statement, names)
            elif result.startswith("raises "):
                with self.assertRaises(ValueError) as caught:
                    eval(statement, names)
                self.assertEqual(type(caught.exception).__name__, result[len("raises "):])
            else:
                self.assertEqual(repr(eval(statement, names)), result)

    def test_examples(self):
        for name, text in EXAMPLES.items():
            with self.subTest(name):
                self.run_steps(text)

    @unittest.skipUnless(DOCUMENT.exists(), "the document is not beside the project")
    def test_examples_of_the_document(self):
        found = examples_of_document(DOCUMENT.read_text(encoding="utf-8"))
        for name in EXAMPLES:
            self.assertIn(name, found)
        for name, text in found.items():
            if (ROOT / "nearestword" / (name + ".py")).exists():
                with self.subTest(name):
                    self.run_steps(text)
