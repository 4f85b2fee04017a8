"""Lectic order, and the closed sets of marks in this order."""

from formalconcepts.sets import shared
from formalconcepts.tables import closure


def is_less(marks, other):
    """Tell whether a set of marks is less than another one in lectic order."""
    return lectic_key(marks) < lectic_key(other)


def lectic_key(marks):
    """Return a tuple for a set: in Python's order these stand as their sets in lectic order."""
    # Where two rising tuples part, the lesser mark is the least that stands in
    # just one set, and this set is the greater one; so is one that goes on where
    # the other one has ended.
    return tuple([-mark for mark in marks])


def all_sets(many):
    """Return all sets of so many marks in lectic order."""
    found = [()]
    # A set without the least mark is less than each one that has it.
    for mark in reversed(range(many)):
        found = found + [(mark, *marks) for marks in found]
    return found


def next_closed(table, marks):
    """Return the least closed set that is greater than a set of marks, None if there is none."""
    # A greater set first parts from the marks at one that they lack and it has:
    # the later this one, the less the set.
    for mark in reversed(range(table[1])):
        if mark not in marks:
            before = tuple([other for other in marks if other < mark])
            found = closure(table, (*before, mark))
            if before == tuple([other for other in found if other < mark]):
                return found
    return None


def closed_sets(table):
    """Return all closed sets of marks in lectic order."""
    _, many, rows = table
    # They are what is common to some things: the marks of the thing, and what
    # these share with the sets of earlier things. For no things it is all marks.
    found = {tuple(range(many)): True}
    for row in rows:
        for marks in list(found):
            found[shared(marks, row)] = True
    return tuple(sorted(found, key=lectic_key))
