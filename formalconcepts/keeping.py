"""Keepers: a table is changed thing by thing, and its closed sets are told."""

from formalconcepts.errors import ThingFault
from formalconcepts.lectic import closed_sets
from formalconcepts.sets import lacking


class Keeper:
    """A table that is changed thing by thing, and its closed sets as it is."""

    def __init__(self, many):
        self.table = ("table", many, ())
        self.closed = closed_sets(self.table)

    def add(self, row):
        """Put a thing behind the others; return its number, and how many closed sets are new."""
        rows = self.table[2]
        new, _ = self.become((*rows, row))
        return (len(rows), len(new))

    def remove(self, thing):
        """Take a thing out; return how many closed sets are gone. Raise ThingFault if there is no such thing."""
        before, behind = beside(self.table[2], thing)
        _, gone = self.become((*before, *behind))
        return len(gone)

    def changed(self, thing, row):
        """Replace the row of a thing; return the new closed sets, and those that are gone.

        Raise ThingFault if there is no such thing.
        """
        before, behind = beside(self.table[2], thing)
        return self.become((*before, row, *behind))

    def become(self, rows):
        """Take other rows; return the new closed sets, and those that are gone."""
        closed = self.closed
        self.table = ("table", self.table[1], rows)
        self.closed = closed_sets(self.table)
        return (lacking(self.closed, closed), lacking(closed, self.closed))


def beside(rows, thing):
    """Return the rows before that of a thing, and those behind it."""
    if thing < 0 or thing >= len(rows):
        raise ThingFault("no such thing")
    return (rows[:thing], rows[thing + 1:])
