"""What the document says, done by a plain search, to compare the program with."""

from tests.samples import sets_below


def common_of(table, things):
    """Return what [c2] calls common, by sets."""
    found = set(range(table[1]))
    for thing in things:
        found &= set(table[2][thing])
    return tuple(sorted(found))


def having_of(table, marks):
    """Return what [c2] calls having, by sets."""
    return tuple(thing for thing, row in enumerate(table[2]) if set(marks) <= set(row))


def lectic_place(marks, many):
    """Return a tuple that is less the less the set is by [c4]: for each mark whether it stands in it."""
    return tuple(mark in marks for mark in range(many))


def all_closed(table):
    """Return the closed sets of marks in lectic order, by a search through all sets of marks."""
    found = [marks for marks in sets_below(table[1]) if common_of(table, having_of(table, marks)) == marks]
    return tuple(sorted(found, key=lambda marks: lectic_place(marks, table[1])))


def all_concepts(table):
    """Return all concepts in the lectic order of their marks."""
    return tuple((having_of(table, marks), marks) for marks in all_closed(table))


def is_below(concept, other):
    """Tell whether a concept is below another one, or is it."""
    return set(concept[0]) <= set(other[0])


def least_of(found):
    """Return the concept that is below all others of some."""
    (least,) = [concept for concept in found if all(is_below(concept, other) for other in found)]
    return least


def greatest_of(found):
    """Return the concept that is above all others of some."""
    (greatest,) = [concept for concept in found if all(is_below(other, concept) for other in found)]
    return greatest
