"""Orders and lattices that several tests go through."""

from itertools import combinations, product

from tests.plain import is_plain_lattice, is_plain_order
from tests.samples import sets_below


def all_orders(many):
    """Return all orders on so many elements, in whatever numbering: very many from 5 elements on."""
    choices = [[some for some in sets_below(many) if x in some] for x in range(many)]
    return [("order", many, above) for above in product(*choices) if is_plain_order(many, above)]


def rising_orders(many):
    """Return all orders in which what is above another element has the greater number."""
    found = []
    for chosen in sets_of(list(combinations(range(many), 2))):
        above = tuple(tuple(y for y in range(many) if x == y or (x, y) in chosen) for x in range(many))
        if is_plain_order(many, above):
            found.append(("order", many, above))
    return found


def rising_lattices(many):
    """Return all lattices in which what is above another element has the greater number."""
    if many == 1:
        return [("lattice", 1, ((0,),))]
    found = []
    for _, _, between in rising_orders(many - 2):
        middle = tuple(tuple(y + 1 for y in row) + (many - 1,) for row in between)
        above = (tuple(range(many)), *middle, (many - 1,))
        if is_plain_lattice(many, above):
            found.append(("lattice", many, above))
    return found


def sets_of(things):
    """Return all sets of some things."""
    return [set(some) for size in range(len(things) + 1) for some in combinations(things, size)]


def renumbered(order, places):
    """Return the order in which each element has the number that places has for it."""
    word, many, above = order
    rows = {places[x]: tuple(sorted(places[y] for y in above[x])) for x in range(many)}
    return (word, many, tuple(rows[x] for x in range(many)))


def scrambled(order):
    """Return an order in some other numberings."""
    many = order[1]
    step = next(step for step in (7, 5, 3, 11) if many % step != 0)
    return [
        renumbered(order, list(range(many))[::-1]),
        renumbered(order, [(x * step + 1) % many for x in range(many)]),
        renumbered(order, [x ^ 1 if x ^ 1 < many else x for x in range(many)]),
    ]


def as_order(lattice):
    """Return a lattice as an order."""
    return ("order", *lattice[1:])


def chain(many):
    """Return the lattice whose elements stand one above the other."""
    return ("lattice", many, tuple(tuple(range(x, many)) for x in range(many)))


def antichain(many):
    """Return the order in which none is above another one."""
    return ("order", many, tuple((x,) for x in range(many)))


def with_bounds(order):
    """Return the lattice with 0 below all elements of an order, and one above all of them."""
    _, many, above = order
    middle = tuple(tuple(y + 1 for y in row) + (many + 1,) for row in above)
    return ("lattice", many + 2, (tuple(range(many + 2)), *middle, (many + 1,)))


def flat(many):
    """Return the lattice with so many elements between the least and the greatest one."""
    return with_bounds(antichain(many))


def cube(many):
    """Return the lattice of all sets of so many things, as the bits of numbers."""
    size = 2 ** many
    return ("lattice", size, tuple(tuple(y for y in range(size) if x & y == x) for x in range(size)))


def divisors(number):
    """Return the lattice of the divisors of a number."""
    found = [x for x in range(1, number + 1) if number % x == 0]
    rows = tuple(tuple(place for place, y in enumerate(found) if y % x == 0) for x in found)
    return ("lattice", len(found), rows)


def of_lines(points, lines):
    """Return the lattice of some points and lines, with one below and one above all."""
    above = [(x, *[points + at for at, line in enumerate(lines) if x in line]) for x in range(points)]
    above += [(points + at,) for at in range(len(lines))]
    return with_bounds(("order", len(above), tuple(above)))


ONE = chain(1)
TWO = chain(2)
PENTAGON = ("lattice", 5, ((0, 1, 2, 3, 4), (1, 2, 4), (2, 4), (3, 4), (4,)))
DIAMOND = flat(3)
SQUARE = cube(2)

# Nine points and nine lines, three points on each line and three lines through
# each point, in three ways: no count of neighbors parts them.
PAPPUS = of_lines(9, (
    (0, 1, 2), (3, 4, 5), (6, 7, 8), (0, 4, 6), (1, 3, 6), (0, 5, 7), (2, 3, 7), (1, 5, 8), (2, 4, 8),
))
ROUND = of_lines(9, tuple((x, (x + 1) % 9, (x + 3) % 9) for x in range(9)))

# The same again, but the points are not all alike: what is tried first may fail.
MIXED = of_lines(9, (
    (0, 1, 2), (0, 3, 4), (0, 5, 6), (1, 3, 5), (1, 4, 7), (2, 3, 8), (2, 6, 7), (4, 6, 8), (5, 7, 8),
))

# Each element has as many above and below it as just one of the other, and still they are unlike.
ONE_WAY = ("lattice", 9, (
    (0,), (0, 1), (0, 2), (0, 2, 3), (0, 1, 2, 3, 4), (0, 2, 3, 5), (0, 2, 6), (0, 2, 3, 5, 6, 7),
    (0, 1, 2, 3, 4, 5, 6, 7, 8),
))
OTHER_WAY = ("lattice", 9, (
    (0,), (0, 1), (0, 2), (0, 1, 3), (0, 1, 3, 4), (0, 1, 3, 4, 5), (0, 1, 6), (0, 1, 2, 3, 6, 7),
    (0, 1, 2, 3, 4, 5, 6, 7, 8),
))

NO_ELEMENTS = ("order", 0, ())
# Two below both of two others: there is no least one above the two.
CROWN = ("order", 4, ((0, 2, 3), (1, 2, 3), (2,), (3,)))

RISING_LATTICES = [lattice for many in range(1, 8) for lattice in rising_lattices(many)]
SMALL_ORDERS = [order for many in range(5) for order in all_orders(many)]
NAMED_LATTICES = [
    ONE, TWO, PENTAGON, DIAMOND, SQUARE, chain(20), flat(18), cube(3), cube(4), divisors(360), divisors(60), PAPPUS,
    ROUND, MIXED, ONE_WAY, OTHER_WAY, with_bounds(CROWN[:2] + (((0, 2), (1, 3), (2,), (3,)),)),
]
LATTICES = [
    *RISING_LATTICES,
    *[other for lattice in RISING_LATTICES if lattice[1] < 7 for other in scrambled(lattice)],
    *NAMED_LATTICES,
    *[other for lattice in NAMED_LATTICES for other in scrambled(lattice)],
]
