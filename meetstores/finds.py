"""Numbers that tell a store, and the difference of two stores found from them (points 10 and 11)."""

from meetstores.errors import BadIndex, BadSize, BadTells
from meetstores.notes import MANY_HOSTS, SERIALS, check_store, is_name, names_in
from meetstores.octets import is_between
from meetstores.prime import PRIME, inverse, poly_divided, poly_product, poly_scaled, poly_sum, roots_of, value_of

FIRST_POINT = 1073741824
MOST_INDEX = 1048575
MOST_SIZE = 1048576
MOST_TELLS = 40


def is_index(value):
    """Whether a value is the index of a point."""
    return is_between(value, 0, MOST_INDEX)


def is_number_told(value):
    """Whether a value is a number that a store may tell."""
    return is_between(value, 1, PRIME - 1)


def is_tell(value):
    """Whether a value is a pair of an index and a number that a store may tell there."""
    if type(value) is not tuple or len(value) != 2:
        return False
    return is_index(value[0]) and is_number_told(value[1])


def is_size(value):
    """Whether a value is the size of a store."""
    return is_between(value, 0, MOST_SIZE)


def check_size(size):
    """Raise the error of a value that is not the size of a store."""
    if not is_size(size):
        raise BadSize("not the size of a store")


def check_tells(tells):
    """Raise the error of a value that is not tells."""
    if type(tells) is not tuple or len(tells) > MOST_TELLS:
        raise BadTells(None)
    last = -1
    for place, tell in enumerate(tells):
        if not is_tell(tell) or tell[0] <= last:
            raise BadTells(place)
        last = tell[0]


def told_of(names, index):
    """The number that names tell at the point of an index."""
    point = FIRST_POINT + index
    number = 1
    for name in names:
        number = number * (point - name) % PRIME
    return number


def through(points, numbers):
    """The pair of the polynomial of less degree than there are points that has these values at them, and of the
    one with leading number 1 that is 0 at each of them, once.
    """
    poly, zero = (), (1,)
    for point, number in zip(points, numbers):
        step = (number - value_of(poly, point)) * inverse(value_of(zero, point)) % PRIME
        poly = poly_sum(poly, poly_scaled(zero, step))
        zero = poly_product(zero, (PRIME - point, 1))
    return poly, zero


def power_of(number, exponent):
    """A number to the power of a count, modulo the prime."""
    power = 1
    for _ in range(exponent):
        power = power * number % PRIME
    return power


def fraction(points, ratios, surplus):
    """The pair of an upper and a lower polynomial whose quotient has the ratios at the points.

    If there are two with leading numbers 1 and no common root, the upper one's degree greater by the surplus, and
    both degrees together no more than the points, it is these; otherwise it is a pair that fails in one of that.
    """
    # The upper one is the lower one times z ** surplus, and a rest of less degree. So the rest and the lower one
    # are a row of Euclid's steps: from the polynomial that is 0 at the points to the one with rest / lower there.
    most = (len(points) - surplus) // 2
    poly, zero = through(points, [ratio - power_of(point, surplus) for point, ratio in zip(points, ratios)])
    before, rest = zero, poly
    lower_before, lower = (), (1,)
    while len(rest) > len(points) - most:
        quotient, left = poly_divided(before, rest)
        before, rest = rest, left
        less = poly_scaled(poly_product(quotient, lower), PRIME - 1)
        lower_before, lower = lower, poly_sum(lower_before, less)
    lead = inverse(lower[-1])
    lower = poly_scaled(lower, lead)
    return poly_sum((0,) * surplus + lower, poly_scaled(rest, lead)), lower


def names_at(poly):
    """The ascending tuple of the names that are, all unlike, the roots of a polynomial with leading number 1; None
    for one that has other roots, or fewer, or another leading number.
    """
    if poly[-1] != 1:
        return None
    # To look for roots takes long, and is no use where they add up to more than so many names can.
    if len(poly) > 1 and -poly[-2] % PRIME >= (len(poly) - 1) * MANY_HOSTS * SERIALS:
        return None
    names = roots_of(poly)
    if names is None or not all([is_name(name) for name in names]):
        return None
    return names


def is_beyond(size, tells, names):
    """Whether some names are so many more or fewer than a size that no difference of as many as the tells is left."""
    return abs(size - len(names)) > len(tells)


def difference_by(size, tells, names, own):
    """What difference returns for names that are not beyond, own being what they tell at the points of the tells."""
    surplus = size - len(names)
    points = [FIRST_POINT + tell[0] for tell in tells]
    ratios = [tell[1] * inverse(number) % PRIME for tell, number in zip(tells, own)]
    if surplus < 0:
        less_poly, more_poly = fraction(points, [inverse(ratio) for ratio in ratios], -surplus)
    else:
        more_poly, less_poly = fraction(points, ratios, surplus)
    if len(more_poly) - len(less_poly) != surplus:
        return None
    more = names_at(more_poly)
    less = names_at(less_poly) if more is not None else None
    if less is None:
        return None
    # Mostly nothing differs, and then all the names need not be looked at.
    held = {name: True for name in names} if len(more) + len(less) > 0 else {}
    if any([name in held for name in more]) or not all([name in held for name in less]):
        return None
    return more, less


def difference(size, tells, names):
    """The pair (more, less) that makes names of a size, which tell the numbers of tells, out of some names: those
    to be put to them and those to be taken away; None if there is none. Size, tells and names surely are good.
    """
    if is_beyond(size, tells, names):
        return None
    return difference_by(size, tells, names, [told_of(names, tell[0]) for tell in tells])


def told(store, index):
    """The number that a store tells at the point of an index."""
    check_store(store)
    if not is_index(index):
        raise BadIndex("not the index of a point")
    return told_of(names_in(store), index)


def find(size, tells, store):
    """The pair (more, less) of the names that another store, of which size and tells are heard, has more than a
    store, and of those that it has not; None if the tells tell none.
    """
    check_size(size)
    check_tells(tells)
    check_store(store)
    return difference(size, tells, names_in(store))
