"""Orders and lattices: whether a value is one, joins and meets, irreducible elements."""

from formalconcepts.sets import is_set, mask_of, shared
from formalconcepts.tables import common, turned


def is_order(order):
    """Tell whether a value is an order."""
    return has_shape(order, "order") and is_ordered(order)


def is_lattice(lattice):
    """Tell whether a value is a lattice."""
    if not has_shape(lattice, "lattice") or lattice[1] == 0 or not is_ordered(lattice):
        return False
    return has_joins(lattice) and has_joins(flipped(lattice))


def has_shape(value, word):
    """Tell whether a value has this word, a number, and so many sets of numbers below it."""
    if type(value) is not tuple or len(value) != 3:
        return False
    told, many, rows = value
    # Not isinstance: it takes True and False for numbers, too.
    if told != word or type(many) is not int or type(rows) is not tuple:
        return False
    return len(rows) == many and all([is_set(row, many) for row in rows])


def is_ordered(order):
    """Tell whether what has the shape of an order is one."""
    above = order[2]
    masks = [mask_of(row) for row in above]
    for x, row in enumerate(above):
        if x not in row:
            return False
        for y in row:
            # What is above y is above x, and x is above y only if it is y.
            if (masks[y] & masks[x]) != masks[y] or (x != y and x in above[y]):
                return False
    return True


def has_joins(order):
    """Tell whether each two elements of an order have a join."""
    # What is above both is what is above their join or it.
    masks = [mask_of(row) for row in order[2]]
    told = {mask: True for mask in masks}
    return all([(mask & other) in told for mask in masks for other in masks])


def as_table(order):
    """Return the table whose things and marks are the elements, with the marks above a thing or it."""
    return ("table", order[1], order[2])


def flipped(order):
    """Return the order, or the lattice, with what was below above."""
    return (order[0], order[1], turned(as_table(order))[2])


def join_of(lattice, x, y):
    """Return the least element above both of two."""
    above = lattice[2]
    return above.index(shared(above[x], above[y]))


def meet_of(lattice, x, y):
    """Return the greatest element below both of two."""
    return join_of(flipped(lattice), x, y)


def all_joins(lattice):
    """Return for each element a list of its joins with all."""
    masks = [mask_of(row) for row in lattice[2]]
    places = {mask: x for x, mask in enumerate(masks)}
    return [[places[mask & other] for other in masks] for mask in masks]


def all_meets(lattice):
    """Return for each element a list of its meets with all."""
    return all_joins(flipped(lattice))


def join_irreducible(lattice):
    """Return the elements that are not the join of those below them."""
    _, many, above = lattice
    below = flipped(lattice)[2]
    found = []
    for x in range(many):
        lower = tuple([y for y in below[x] if y != x])
        # The join of the lower ones is x if what is above all of them is above x.
        if common(as_table(lattice), lower) != above[x]:
            found.append(x)
    return tuple(found)


def meet_irreducible(lattice):
    """Return the elements that are not the meet of those above them."""
    return join_irreducible(flipped(lattice))
