"""Polynomials modulo the prime 2 ** 61 - 1 (point 7)."""

from meetstores.errors import BadPoly, BadRoots
from meetstores.octets import is_between

PRIME = 2305843009213693951
MOST_ROOTS = 60
# The bits of a room in a packed polynomial: wide enough that no sum of products made there runs into the next one.
ROOM = 150
ROOM_MASK = 1427247692705959881058285969449495136382746623


def is_number(value):
    """Whether a value is a number to reckon with."""
    return is_between(value, 0, PRIME - 1)


def is_numbers(value, most):
    """Whether a value is a tuple of at most so many numbers."""
    return type(value) is tuple and len(value) <= most and all([is_number(number) for number in value])


def is_poly(value):
    """Whether a value is a polynomial."""
    return is_numbers(value, MOST_ROOTS + 1) and (value == () or value[-1] != 0)


def inverse(number):
    """The number whose product with another one, which is not 0, is 1."""
    high, low = PRIME, number
    of_high, of_low = 0, 1
    while low > 0:
        many = high // low
        high, low = low, high - many * low
        of_high, of_low = of_low, of_high - many * of_low
    return of_high % PRIME


def trimmed(numbers):
    """The polynomial of a list of numbers, which may end with 0."""
    many = len(numbers)
    while many > 0 and numbers[many - 1] == 0:
        many -= 1
    return tuple(numbers[:many])


def value_of(poly, place):
    """The value of a polynomial at a number."""
    total = 0
    for number in reversed(poly):
        total = (total * place + number) % PRIME
    return total


def poly_sum(poly, other):
    """The sum of two polynomials."""
    numbers = list(poly) + [0] * (len(other) - len(poly))
    for k, number in enumerate(other):
        numbers[k] = (numbers[k] + number) % PRIME
    return trimmed(numbers)


def poly_scaled(poly, factor):
    """The numbers of a polynomial, each times a number."""
    return tuple([number * factor % PRIME for number in poly])


def poly_product(poly, other):
    """The product of two polynomials."""
    numbers = [0] * (len(poly) + len(other))
    for k, factor in enumerate(poly):
        for j, number in enumerate(other):
            numbers[k + j] = (numbers[k + j] + factor * number) % PRIME
    return trimmed(numbers)


def poly_divided(poly, other):
    """The pair of the quotient and of what is left, for a polynomial divided by one that is not 0."""
    left = list(poly)
    step = len(other) - 1
    lead = inverse(other[-1])
    quotient = []
    for at in range(len(poly) - len(other), -1, -1):
        factor = left[at + step] * lead % PRIME
        quotient.append(factor)
        for k, number in enumerate(other):
            left[at + k] = (left[at + k] - factor * number) % PRIME
    return trimmed(quotient[::-1]), trimmed(left)


def monic(poly):
    """A polynomial scaled so that its leading number is 1; () is left as it is."""
    return poly_scaled(poly, inverse(poly[-1])) if len(poly) > 0 else poly


def divisor(poly, other):
    """The greatest common divisor, with leading number 1, of two polynomials; () of two polynomials 0."""
    while len(other) > 0:
        poly, other = other, poly_divided(poly, other)[1]
    return monic(poly)


def poly_with(some_roots):
    """The polynomial with leading number 1 that has the roots of a tuple, each as often as it stands there."""
    poly = [1]
    for root in some_roots:
        poly = [(low - root * high) % PRIME for low, high in zip([0] + poly, poly + [0])]
    return tuple(poly)


def packed(numbers):
    """Numbers put together as one, each in a room of its own, the first one at the bottom."""
    total = 0
    for number in reversed(numbers):
        total = (total << ROOM) | number
    return total


def unpacked(total, many):
    """So many numbers from the bottom of a packed one, each modulo the prime."""
    return [((total >> (ROOM * k)) & ROOM_MASK) % PRIME for k in range(many)]


def high_powers(poly):
    """What is left, packed, of each of the powers from the degree to twice the degree less 1, divided by a poly."""
    degree = len(poly) - 1
    first = [-number % PRIME for number in poly[:-1]]
    rows = []
    row = first
    for _ in range(degree):
        rows.append(packed(row))
        top = row[-1]
        row = [(low + top * number) % PRIME for low, number in zip([0] + row[:-1], first)]
    return rows


def half_power(poly, shift):
    """What is left of (z + shift) to the power (PRIME - 1) / 2, divided by a monic polynomial of degree 1 or more.

    Its value at a root of the polynomial is 1, 0 or -1, as root + shift is a square, 0 or none.
    """
    degree = len(poly) - 1
    rows = high_powers(poly)
    power = 1
    # (PRIME - 1) / 2 is 60 ones in a row: each step squares and multiplies once more.
    for _ in range(60):
        square = power * power
        total = (square << ROOM) + shift * square
        high = unpacked(total >> (ROOM * degree), degree)
        # What the high rooms leave is put into the low ones, of which alone the next step is made.
        for number, row in zip(high, rows):
            total += number * row
        power = packed(unpacked(total, degree))
    return trimmed(unpacked(power, degree))


def has_all_roots(poly, half):
    """Whether a monic polynomial, of which the half power with shift 0 is known, has unlike roots, its degree many.

    It has if it divides z ** PRIME - z, which has each number as a root, once.
    """
    power = poly_product((0, 1), poly_product(half, half))
    return poly_divided(poly_sum(power, (0, PRIME - 1)), poly)[1] == ()


def halves_by(poly, half):
    """The polynomial parted in two: the roots where a half power is 1, and the others."""
    part = divisor(poly, poly_sum(half, (PRIME - 1,)))
    return [part, poly_divided(poly, part)[0]]


def roots_of(poly):
    """The ascending tuple of the roots of a monic polynomial if they are unlike and as many as its degree, or None."""
    parts = [poly]
    if len(poly) > 2:
        half = half_power(poly, 0)
        if not has_all_roots(poly, half):
            return None
        parts = halves_by(poly, half)
    found = []
    shift = 0
    while len(parts) > 0:
        shift += 1
        later = []
        for part in parts:
            if len(part) > 2:
                later.extend(halves_by(part, half_power(part, shift)))
            elif len(part) == 2:
                found.append(-part[0] % PRIME)
        parts = later
    return tuple(sorted(found))


def value_at(poly, place):
    """The value of a polynomial at a number."""
    if not is_poly(poly):
        raise BadPoly("not a polynomial")
    if not is_number(place):
        raise BadRoots("not a number to reckon with")
    return value_of(poly, place)


def by_roots(roots):
    """The polynomial with leading number 1 that has the roots of a tuple, each as often as it stands there."""
    if not is_numbers(roots, MOST_ROOTS):
        raise BadRoots("not a tuple of at most 60 numbers")
    return poly_with(roots)


def common(poly, other):
    """The greatest common divisor, with leading number 1, of two polynomials; () of two polynomials 0."""
    if not is_poly(poly) or not is_poly(other):
        raise BadPoly("not a polynomial")
    return divisor(poly, other)


def roots(poly):
    """The ascending tuple of a polynomial's roots if they are unlike and as many as its degree, otherwise None."""
    if not is_poly(poly) or poly == ():
        raise BadPoly("not a polynomial that has a number of roots")
    return roots_of(monic(poly))
