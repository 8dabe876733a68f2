"""The limits that several parts of the program share, and how they are kept."""

from math import comb

from nearestword.errors import InvalidCode, TooLarge

MOST_CASES = 4096
GREATEST_LENGTH = 255


def require_few(count):
    """Raises TooLarge for more cases than the program looks at."""
    # The number itself may be too long for Python to write it out.
    if count > MOST_CASES:
        raise TooLarge(f"there are more than {MOST_CASES}")


def require_length(length):
    """Raises InvalidCode if no code has this length."""
    if length < 1 or length > GREATEST_LENGTH:
        raise InvalidCode(f"the length of a code is from 1 to {GREATEST_LENGTH}")


def choose(many, few):
    """The number of ways to choose `few` of `many` things, 0 where there is none."""
    if few < 0 or many < few:
        return 0
    return comb(many, few)
