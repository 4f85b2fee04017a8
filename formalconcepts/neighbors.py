"""The concepts directly above and below a concept, and the lattice of a table."""

from formalconcepts.lectic import closed_sets, lectic_key
from formalconcepts.sets import is_part, mask_of, shared
from formalconcepts.tables import having, turned


def above(table, concept):
    """Return the concepts directly above a concept, in the lectic order of their marks."""
    things, marks = concept
    # A concept above has one more thing at least: so its marks are among those
    # that the marks share with this thing's.
    found = [shared(marks, row) for thing, row in enumerate(table[2]) if thing not in things]
    return tuple([(having(table, some), some) for some in sorted(greatest(found), key=lectic_key)])


def below(table, concept):
    """Return the concepts directly below a concept, in the lectic order of their marks."""
    things, marks = concept
    found = [(some, others) for others, some in above(turned(table), (marks, things))]
    return tuple(sorted(found, key=lambda pair: lectic_key(pair[1])))


def greatest(sets):
    """Return, each once, the sets that are part of no other one."""
    unlike = sorted(set(sets))
    return [some for some in unlike if not any([some != other and is_part(some, other) for other in unlike])]


def lattice_of(table):
    """Return the lattice of the concepts of a table, by their places."""
    # Above are the concepts whose marks are fewer. As there may be very many
    # concepts, each two are compared as numbers.
    masks = [mask_of(marks) for marks in closed_sets(table)]
    rows = [tuple([place for place, other in enumerate(masks) if (other & mask) == other]) for mask in masks]
    return ("lattice", len(masks), tuple(rows))
