"""The stem base of a table, what it decides, and the direct base."""

from formalconcepts.implications import beyond, broken_by, derivation, first_broken
from formalconcepts.lectic import all_sets
from formalconcepts.sets import lacking
from formalconcepts.tables import closure


def pseudo_closed(table):
    """Return the pseudo-closed sets of marks in lectic order."""
    return tuple([premise for premise, _ in stem(table)])


def stem(table):
    """Return the stem base of a table."""
    found = []
    # All parts of a set come before it: so those that are pseudo-closed are found
    # by then, and it is pseudo-closed, too, if it is not closed and has all that
    # they lead to. Found sets that are no part of it ask nothing of it.
    for marks in all_sets(table[1]):
        if first_broken(found, marks) is None:
            more = beyond(table, marks)
            if more != ():
                found = [*found, (marks, more)]
    return tuple(found)


def decide(table, implication):
    """Return the least thing that breaks an implication, or a derivation of it from the stem base."""
    thing = broken_by(table, implication)
    if thing is not None:
        return ("thing", thing)
    return ("derivation", derivation(stem(table), implication))


def direct(table):
    """Return the direct base of a table."""
    found = []
    for marks in all_sets(table[1]):
        more = own_marks(table, marks)
        if more != ():
            found.append((marks, more))
    return tuple(found)


def own_marks(table, marks):
    """Return what the closure of some marks has, but neither they nor a part with one less tell."""
    found = beyond(table, marks)
    for mark in marks:
        found = lacking(found, closure(table, lacking(marks, (mark,))))
    return found
