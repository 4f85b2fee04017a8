"""The kinds of lattices: pentagons, diamonds, and the down sets of orders."""

from itertools import combinations

from formalconcepts.lattices import all_joins, all_meets, flipped, join_irreducible


def pentagon(lattice):
    """Return the least pentagon, None if there is none."""
    _, many, above = lattice
    joins = all_joins(lattice)
    meets = all_meets(lattice)
    found = []
    for a in range(many):
        for b in above[a]:
            for c in range(many):
                # All five are unlike if a and b are: would c be above or below
                # one of these, then a and b would be one.
                if a != b and meets[a][c] == meets[b][c] and joins[a][c] == joins[b][c]:
                    found.append((meets[a][c], a, b, c, joins[a][c]))
    return min(found, default=None)


def diamond(lattice):
    """Return the least diamond, None if there is none."""
    joins = all_joins(lattice)
    meets = all_meets(lattice)
    found = []
    # In whatever order a, b and c stand, it is a diamond: the least one has them rising.
    for a, b, c in combinations(range(lattice[1]), 3):
        if meets[a][b] == meets[a][c] == meets[b][c] and joins[a][b] == joins[a][c] == joins[b][c]:
            found.append((meets[a][b], a, b, c, joins[a][b]))
    return min(found, default=None)


def kind(lattice):
    """Return "distributive", "modular" (and not distributive) or "neither"."""
    if pentagon(lattice) is not None:
        return "neither"
    if diamond(lattice) is not None:
        return "modular"
    return "distributive"


def down_sets(order):
    """Return the sets that have with an element all that are below it, in the order of Python."""
    below = flipped(order)[2]
    found = [()]
    # Those that are below an element come before it: they have fewer below them.
    for x in sorted(range(order[1]), key=lambda low: len(below[low])):
        lower = [y for y in below[x] if y != x]
        found = found + [tuple(sorted([*some, x])) for some in found if all([y in some for y in lower])]
    return tuple(sorted(found))


def irreducible_order(lattice):
    """Return the order of the join irreducible elements, numbered from the least on, and their set."""
    above = lattice[2]
    chosen = join_irreducible(lattice)
    rows = []
    for low in chosen:
        rows.append(tuple([place for place, high in enumerate(chosen) if high in above[low]]))
    return (("order", len(chosen), tuple(rows)), chosen)
