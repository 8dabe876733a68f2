"""Finite fields with at most 256 elements, and two helpers for integers."""

from math import gcd

from nearestword.errors import InvalidField, ZeroElement

LARGEST_PRIME = 31
LARGEST_DEGREE = 8
LARGEST_ORDER = 256


def int_power(base, exponent):
    """The integer `base` to the power of `exponent`."""
    result = 1
    while exponent > 0:
        if exponent & 1 == 1:
            result = result * base
        base = base * base
        exponent = exponent >> 1
    return result


def is_prime(n):
    """Tells whether `n` is a prime."""
    if n < 2:
        return False
    divisor = 2
    while divisor * divisor <= n:
        if n % divisor == 0:
            return False
        divisor += 1
    return True


def _digits_of(number, base, many):
    """The lowest digits of the number, the lowest one first."""
    digits = []
    for _ in range(many):
        digits.append(number % base)
        number = number // base
    return digits


def _number_of(digits, base):
    """The number with these digits, the lowest one first."""
    number = 0
    for digit in reversed(digits):
        number = number * base + digit
    return number


def _divides(prime, divisor, poly):
    """Tells whether the monic `divisor` divides `poly` modulo the prime."""
    rest = list(poly)
    below = len(divisor) - 1
    while len(rest) > below:
        lead = rest.pop()
        start = len(rest) - below
        for at in range(below):
            rest[start + at] = (rest[start + at] - lead * divisor[at]) % prime
    return not any(rest)


def _is_irreducible(prime, modulus):
    """Tells whether the monic modulus is no product of two factors of lower degrees."""
    # One factor of a product has at most half of the degree.
    half = (len(modulus) - 1) // 2
    for degree in range(1, half + 1):
        for number in range(int_power(prime, degree)):
            if _divides(prime, _digits_of(number, prime, degree) + [1], modulus):
                return False
    return True


def _is_field(prime, modulus):
    """Tells whether the prime and the modulus give a field."""
    if prime > LARGEST_PRIME or not is_prime(prime):
        return False
    degree = len(modulus) - 1
    if degree < 1 or degree > LARGEST_DEGREE or int_power(prime, degree) > LARGEST_ORDER:
        return False
    if modulus[-1] != 1 or any(item < 0 or item >= prime for item in modulus):
        return False
    return _is_irreducible(prime, modulus)


def _sum_table(prime, degree):
    """The table of the sums: item b of row a is the sum of a and b."""
    table = [[0]]
    for _ in range(degree):
        table = _longer_sums(prime, table)
    return table


def _longer_sums(prime, table):
    """The table of the sums of elements with one more digit, which is the highest one."""
    size = len(table)
    longer = []
    for high in range(prime):
        for row in table:
            longer.append([(high + other) % prime * size + low for other in range(prime) for low in row])
    return longer


def _shifted_elements(prime, modulus, sums):
    """For each element the product with the element whose polynomial is x."""
    order = len(sums)
    top = order // prime
    shifted = []
    for a in range(order):
        # The digit that is shifted out stands for a multiple of the modulus without its last item.
        high = a // top
        folded = _number_of([-high * item % prime for item in modulus[:-1]], prime)
        shifted.append(sums[a % top * prime][folded])
    return shifted


def _product_table(prime, modulus, sums):
    """The table of the products: item b of row a is the product of a and b."""
    order = len(sums)
    shifted = _shifted_elements(prime, modulus, sums)
    table = [[0] * order]
    for a in range(1, order):
        if a < prime:
            row = [sums[before][b] for b, before in enumerate(table[a - 1])]
        else:
            row = [sums[low][shifted[high]] for low, high in zip(table[a % prime], table[a // prime])]
        table.append(row)
    return table


def _powers_of(products, a):
    """The different powers of the element `a`, which is not 0, from its power 0 on."""
    powers = [1]
    while products[powers[-1]][a] != 1:
        powers.append(products[powers[-1]][a])
    return powers


def _primitive_powers(products):
    """The powers of the primitive element."""
    a = 1
    powers = [1]
    while len(powers) < len(products) - 1:
        a += 1
        powers = _powers_of(products, a)
    return powers


class Field:
    """The field with a prime and a modulus; its elements are the integers below its order."""

    def __init__(self, prime, modulus=(0, 1)):
        if not _is_field(prime, modulus):
            raise InvalidField("there is no field with this prime and this modulus")
        self.prime = prime
        self.modulus = tuple(modulus)
        self.degree = len(modulus) - 1
        self.order = int_power(prime, self.degree)
        self._sums = _sum_table(prime, self.degree)
        self._products = _product_table(prime, self.modulus, self._sums)
        # The element prime - 1 is the negative of 1.
        self._negatives = self._products[prime - 1]
        self._powers = _primitive_powers(self._products)
        self._logs = {a: exponent for exponent, a in enumerate(self._powers)}

    def digits(self, a):
        """The digits of the element, the lowest one first."""
        return _digits_of(a, self.prime, self.degree)

    def element(self, digits):
        """The element with these digits."""
        return _number_of(digits, self.prime)

    def all_elements(self):
        """All elements in ascending order."""
        return list(range(self.order))

    def plus(self, a, b):
        """The sum of two elements."""
        return self._sums[a][b]

    def minus(self, a, b):
        """The difference of two elements."""
        return self._sums[a][self._negatives[b]]

    def negative(self, a):
        """The negative of the element."""
        return self._negatives[a]

    def times(self, a, b):
        """The product of two elements."""
        return self._products[a][b]

    def inverse(self, a):
        """The inverse of the element."""
        return self._powers[-self.log(a) % (self.order - 1)]

    def over(self, a, b):
        """The quotient of two elements."""
        return self.times(a, self.inverse(b))

    def power(self, a, exponent):
        """The power of the element."""
        if exponent == 0:
            return 1
        if a == 0:
            return 0
        return self._powers[self.log(a) * exponent % (self.order - 1)]

    def order_of(self, a):
        """The least exponent from 1 whose power of the element is 1."""
        return (self.order - 1) // gcd(self.log(a), self.order - 1)

    def log(self, a):
        """The exponent whose power of the primitive element is the element."""
        if a == 0:
            raise ZeroElement("0 has no inverse, no order and no logarithm")
        return self._logs[a]

    def primitive_element(self):
        """The least element whose powers are all elements except 0."""
        # In the field of order 2 the power with the exponent 1 is the one with the exponent 0.
        return self._powers[1 % (self.order - 1)]

    def same_as(self, other):
        """Tells whether the other field has the same prime and the same modulus."""
        return self.prime == other.prime and self.modulus == other.modulus

    def multiple(self, factor, row):
        """The list of the products of the factor and each item of the row."""
        products = self._products[factor]
        return [products[item] for item in row]

    def plus_multiple(self, row, factor, other):
        """The row plus the multiple of another one of the same length, item by item."""
        sums = self._sums
        products = self._products[factor]
        return [sums[item][products[added]] for item, added in zip(row, other)]

    def dot(self, row, other):
        """The sum of the products of the items of two rows of the same length."""
        total = 0
        for item, factor in zip(row, other):
            total = self._sums[total][self._products[item][factor]]
        return total


def _prime_below(order):
    """The least prime that divides the order, which is at least 2."""
    divisor = 2
    while order % divisor != 0:
        divisor += 1
    return divisor


def _least_modulus(prime, degree):
    """The least irreducible modulus of the degree."""
    number = 0
    modulus = _digits_of(number, prime, degree) + [1]
    while not _is_irreducible(prime, modulus):
        number += 1
        modulus = _digits_of(number, prime, degree) + [1]
    return tuple(modulus)


def standard_field(order):
    """The field of the order whose modulus is the least one."""
    if order < 2 or order > LARGEST_ORDER:
        raise InvalidField(f"the order of a field is from 2 to {LARGEST_ORDER}")
    prime = _prime_below(order)
    degree = 1
    while int_power(prime, degree) < order:
        degree += 1
    if prime > LARGEST_PRIME or int_power(prime, degree) != order:
        raise InvalidField(f"the order is no power of a prime from 2 to {LARGEST_PRIME}")
    return Field(prime, _least_modulus(prime, degree))
