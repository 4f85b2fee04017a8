"""Congruences of lattices, quotients, simple lattices and monoliths."""

from formalconcepts.lattices import all_joins, all_meets, flipped
from formalconcepts.sets import are_numbers, shared


def is_congruence(lattice, congruence):
    """Tell whether a value is a congruence of a lattice."""
    many = lattice[1]
    if not are_numbers(congruence, many) or len(congruence) != many:
        return False
    if any([least > x or congruence[least] != least for x, least in enumerate(congruence)]):
        return False
    # What goes for each element and the least one of its class goes for the whole class.
    return all([
        congruence[row[x]] == congruence[row[least]]
        for row in all_results(lattice) for x, least in enumerate(congruence)
    ])


def all_results(lattice):
    """Return for each element a list of its joins with all, and then likewise the meets."""
    return all_joins(lattice) + all_meets(lattice)


def joined(lattice, pairs):
    """Return the congruence within all that have, for each of some pairs, both in one class."""
    return coarsened(single(lattice), pairs, all_results(lattice))


def single(lattice):
    """Return the congruence of single elements."""
    return tuple(range(lattice[1]))


def coarsened(congruence, pairs, results):
    """Return the congruence within all that have both of each pair in one class and a congruence within them."""
    waiting = list(pairs)
    while waiting:
        x, y = waiting.pop()
        low, high = sorted([congruence[x], congruence[y]])
        if low != high:
            congruence = tuple([low if least == high else least for least in congruence])
            waiting.extend([(row[x], row[y]) for row in results])
    return congruence


def congruences(lattice):
    """Return all congruences, rising."""
    results = all_results(lattice)
    found = {single(lattice): True}
    # If x and y are in one class, so are the elements of a way up from their
    # meet to their join: pairs of neighbors tell a congruence.
    for pair in neighbors_of(lattice):
        for congruence in list(found):
            found[coarsened(congruence, (pair,), results)] = True
    return tuple(sorted(found))


def neighbors_of(lattice):
    """Return the pairs of elements of which the second one is directly above the first one."""
    above = lattice[2]
    below = flipped(lattice)[2]
    # None but the two themselves is above the one or it, and below the other or it.
    return [(x, y) for x, row in enumerate(above) for y in row if len(shared(row, below[y])) == 2]


def quotient(lattice, congruence):
    """Return the lattice of the classes, and for each element the place of its class."""
    classes = sorted(set(congruence))
    places = tuple([classes.index(least) for least in congruence])
    rows = []
    for place in range(len(classes)):
        higher = [row for x, row in enumerate(lattice[2]) if places[x] == place]
        rows.append(tuple(sorted({places[y] for row in higher for y in row})))
    return (("lattice", len(classes), tuple(rows)), places)


def is_simple(lattice):
    """Tell whether a lattice has just two congruences; one of a single element has only one."""
    return len(congruences(lattice)) == 2


def monolith(lattice):
    """Return the congruence within all others but that of single elements, None if there is none."""
    others = [congruence for congruence in congruences(lattice) if congruence != single(lattice)]
    for congruence in others:
        if all([is_within(congruence, other) for other in others]):
            return congruence
    return None


def is_within(congruence, other):
    """Tell whether the classes of a congruence lie within those of another one."""
    return all([other[x] == other[least] for x, least in enumerate(congruence)])
