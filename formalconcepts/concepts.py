"""The concepts of a table."""

from formalconcepts.lectic import closed_sets
from formalconcepts.sets import is_set, shared
from formalconcepts.tables import common, having


def concepts(table):
    """Return all concepts in the lectic order of their marks."""
    return tuple([(having(table, marks), marks) for marks in closed_sets(table)])


def is_concept(table, pair):
    """Tell whether a value is a concept of a table."""
    _, many, rows = table
    if type(pair) is not tuple or len(pair) != 2:
        return False
    things, marks = pair
    if not is_set(things, len(rows)) or not is_set(marks, many):
        return False
    return having(table, marks) == things and common(table, things) == marks


def of_thing(table, thing):
    """Return the least concept that has a thing."""
    marks = common(table, (thing,))
    return (having(table, marks), marks)


def of_mark(table, mark):
    """Return the greatest concept that has a mark."""
    things = having(table, (mark,))
    return (things, common(table, things))


def meet(table, concept, other):
    """Return the greatest concept that is below two concepts."""
    things = shared(concept[0], other[0])
    return (things, common(table, things))


def join(table, concept, other):
    """Return the least concept that is above two concepts."""
    marks = shared(concept[1], other[1])
    return (having(table, marks), marks)
