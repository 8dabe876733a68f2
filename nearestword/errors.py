"""The errors of the program."""


class CodeError(ValueError):
    """The base class of all errors of the program."""


class InvalidField(CodeError):
    """There is no such field."""


class ZeroElement(CodeError):
    """The element 0 has no inverse, no order and no logarithm."""


class ZeroPolynomial(CodeError):
    """The zero polynomial is no divisor, and it has no roots and no factors."""


class InvalidPoints(CodeError):
    """The points do not fit the values, or one of them occurs twice."""


class InvalidMatrix(CodeError):
    """The width or the size of a matrix does not fit."""


class SingularMatrix(CodeError):
    """The matrix has no inverse."""


class InvalidWord(CodeError):
    """The list is not a word of the length and the field that are needed."""


class InvalidCode(CodeError):
    """There is no such code."""


class NotInCode(CodeError):
    """The word does not belong to the code."""


class TooLarge(CodeError):
    """There are more cases than the program looks at."""


class TooManyErrors(CodeError):
    """No word of the code lies within the number of errors."""


class Undetermined(CodeError):
    """More than one word of the code fits."""


class InvalidEncoder(CodeError):
    """There is no encoder with these taps."""


class NothingToUndo(CodeError):
    """No change is left that could be taken back."""


class NothingToRedo(CodeError):
    """No change is left that could be restored."""


class Ambiguous(CodeError):
    """Several words fit where only one is asked for; they are in `found`."""

    def __init__(self, found):
        super().__init__("several words fit")
        self.found = [list(word) for word in found]


class Catastrophic(CodeError):
    """The encoder has a silent round; its states are in `states`."""

    def __init__(self, states):
        super().__init__("the encoder has a silent round")
        self.states = list(states)


class InvalidNotation(CodeError):
    """The text is not a written form; `line` is the first wrong line."""

    def __init__(self, line):
        super().__init__(f"line {line} is wrong")
        self.line = line


class UnknownName(CodeError):
    """No code has the name `name`."""

    def __init__(self, name):
        super().__init__(f"no code is called {name}")
        self.name = name


class NameTaken(CodeError):
    """There is already a code of the name `name`."""

    def __init__(self, name):
        super().__init__(f"there is already a code called {name}")
        self.name = name
