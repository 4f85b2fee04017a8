"""The basic theorem: standard tables, lattices that are alike, and completions."""

from formalconcepts.concepts import concepts
from formalconcepts.lattices import as_table, join_irreducible, meet_irreducible
from formalconcepts.lectic import closed_sets
from formalconcepts.neighbors import lattice_of
from formalconcepts.tables import turned


def table_of(lattice):
    """Return the standard table of a lattice."""
    above = lattice[2]
    marks = meet_irreducible(lattice)
    rows = []
    for low in join_irreducible(lattice):
        rows.append(tuple([mark for mark, high in enumerate(marks) if high in above[low]]))
    return ("table", len(marks), tuple(rows))


def led(lattice):
    """Return for each element the place of its concept among those of the standard table."""
    _, many, above = lattice
    things = join_irreducible(lattice)
    extents = [concept[0] for concept in concepts(table_of(lattice))]
    places = []
    for x in range(many):
        lower = tuple([thing for thing, low in enumerate(things) if x in above[low]])
        places.append(extents.index(lower))
    return tuple(places)


def completion(order):
    """Return the completion of an order, and for each element of the order its own there."""
    table = as_table(order)
    closed = closed_sets(table)
    # The marks of the concept of a thing are the marks of the thing.
    return (lattice_of(table), tuple([closed.index(row) for row in order[2]]))


def alike(lattice, other):
    """Return the least tuple that leads one lattice onto another one, None if they are not alike."""
    many = lattice[1]
    if other[1] != many:
        return None
    # Both lattices stand side by side in one order, that all may be compared.
    above = (*lattice[2], *[tuple([many + y for y in row]) for row in other[2]])
    below = turned(("table", len(above), above))[2]
    return matched(above, below, [0] * len(above))


def matched(above, below, colours):
    """Return the least tuple that leads the first half onto the second one, and keeps the colours."""
    colours = refined(above, below, colours)
    many = len(colours) // 2
    first = colours[:many]
    second = colours[many:]
    if sorted(first) != sorted(second):
        return None
    # Where a colour stands once in each half there is no choice. If all do, the
    # order is kept: elements of one colour have the same colours above them.
    undecided = [x for x, colour in enumerate(first) if first.count(colour) > 1]
    if undecided == []:
        return tuple([second.index(colour) for colour in first])
    x = undecided[0]
    for y in range(many):
        if second[y] == first[x]:
            marked = list(colours)
            marked[x] = marked[many + y] = len(colours)
            found = matched(above, below, marked)
            if found is not None:
                return found
    return None


def refined(above, below, colours):
    """Return colours that part what has other colours above or below it."""
    while True:
        signs = []
        for x, colour in enumerate(colours):
            higher = tuple(sorted([colours[y] for y in above[x]]))
            lower = tuple(sorted([colours[y] for y in below[x]]))
            signs.append((colour, higher, lower))
        names = {}
        for sign in signs:
            names.setdefault(sign, len(names))
        count = len(set(colours))
        # The new colours are numbered from 0 on, and so leave the number free
        # that the next choice is marked with.
        colours = [names[sign] for sign in signs]
        if len(names) == count:
            return colours
