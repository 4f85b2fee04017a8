"""Rules: counts, trust, and Luxenburger's base."""

from formalconcepts.concepts import concepts
from formalconcepts.neighbors import below
from formalconcepts.sets import united
from formalconcepts.tables import having


def count(table, marks):
    """Return how many things have some marks."""
    return len(having(table, marks))


def trust(table, rule):
    """Return the count of both sides of a rule together, and the count of its premise."""
    premise, conclusion = rule
    return (count(table, united(premise, conclusion)), count(table, premise))


def luxenburger(table):
    """Return Luxenburger's base, in the lectic order of its sets, then of the others."""
    found = []
    for things, marks in concepts(table):
        # What is below as a concept is above as a set of marks.
        for others, more in below(table, (things, marks)):
            if others != ():
                found.append((marks, more, len(others), len(things)))
    return tuple(found)


def trust_by(base, whole, marks, other):
    """Return the trust of the rule from a closed set to a greater one, by Luxenburger's base alone."""
    reached = {marks: counted(base, whole, marks)}
    # A set comes before all greater ones: so one way through the base is enough.
    for some, more, many, _ in base:
        if some in reached:
            reached[more] = many
    return (reached.get(other, 0), reached[marks])


def counted(base, whole, marks):
    """Return the count of a closed set that the base tells; the least one's is the whole."""
    for _, more, many, _ in base:
        if more == marks:
            return many
    return whole
