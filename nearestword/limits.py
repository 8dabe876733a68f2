"""The limits that several parts of the program share, and how they are kept."""

from math import comb

from nearestword.errors import InvalidCode, TooLarge
from nearestword.fields import LARGEST_ORDER

MOST_CASES = 4096
GREATEST_LENGTH = 255


def require_few(count):
    """Raises TooLarge for more cases than the program looks at."""
    # The number itself may be too long for Python to write it out.
    if count > MOST_CASES:
        raise TooLarge(f"there are more than {MOST_CASES}")


def require_between(name, number, least, greatest):
    """Raises InvalidCode if the number, which is called by the name, is beyond one of its limits."""
    if number < least or number > greatest:
        raise InvalidCode(f"the {name} is from {least} to {greatest}")


def require_order(order):
    """Raises InvalidCode if the order is beyond those of the fields."""
    require_between("order", order, 2, LARGEST_ORDER)


def require_length(length):
    """Raises InvalidCode if no code has this length."""
    require_between("length", length, 1, GREATEST_LENGTH)


def choose(many, few):
    """The number of ways to choose `few` of `many` things, 0 where there is none."""
    if few < 0 or many < few:
        return 0
    return comb(many, few)
