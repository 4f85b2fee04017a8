"""Products of lattices, sums of tables, and what elements generate."""

from formalconcepts.lattices import all_joins, all_meets


def product(lattice, other):
    """Return the product of two lattices."""
    _, many, above = lattice
    _, size, higher = other
    rows = []
    for row in above:
        for line in higher:
            rows.append(tuple([x * size + y for x in row for y in line]))
    return ("lattice", many * size, tuple(rows))


def sum_of(table, other):
    """Return the sum of two tables."""
    _, many, rows = table
    _, size, lines = other
    # Each thing has all marks of the other table.
    first = [row + tuple(range(many, many + size)) for row in rows]
    second = [tuple(range(many)) + tuple([many + mark for mark in line]) for line in lines]
    return ("table", many + size, tuple(first + second))


def generated(lattice, some):
    """Return the least set that has some elements and with two of them their join and meet."""
    joins = all_joins(lattice)
    meets = all_meets(lattice)
    while True:
        # The join of an element with itself is this one: nothing is lost.
        more = sorted({joins[x][y] for x in some for y in some} | {meets[x][y] for x in some for y in some})
        if len(more) == len(some):
            return tuple(more)
        some = more
